import Derived.Test.YtipejahmjdamjaaGreatDoorNg
namespace Go.Proofs.YtipejahmjdamjaaGreatDoor
open Go.RowKit Go.Shelf
set_option linter.unusedVariables false
set_option linter.unusedSimpArgs false
set_option maxRecDepth 20000

theorem owns_sliceT {w : World} {et : TypeId} {a : Option Addr} {c : Nat} {n : Nat} {xs : List Value} (h : w.ownsRow 0 et 1 (.slice a n c) n xs) : ∀ (i : Nat) (x : Value), xs[i]? = some x → ∃ g, a = some ⟨g, 0, none⟩ ∧ w.cell? ⟨g, i, none⟩ = some x := by
  rcases h.2 with ⟨e, rfl⟩ | ⟨g, cap, cur, e, _⟩
  · intro i x hx
    have h1 := h.1
    have := (List.getElem?_eq_some_iff.1 hx).1
    omega
  · intro i x hx
    injection e with e1 _ _
    subst e1
    refine ⟨g, rfl, ?_⟩
    have := h.cells rfl i x hx
    rw [addr_add] at this
    simpa using this

/-- While the lists get their marks. -/
def csM (cs : Nat → Rw → List Value) (m : Nat) (j : Nat) (e : Rw) : List Value := if j < m then mrk j e else cs j e
def csT (cs : Nat → Rw → List Value) (m t : Nat) (j : Nat) (e : Rw) : List Value := if j < m then mrk j e else if j = m then List.replicate t (Mv j) ++ (cs j e).drop t else cs j e

set_option maxHeartbeats 8000000 in
theorem apartInts_any (LB o cap : Nat) (es : List Rw) (cs : Nat → Rw → List Value) (w : World) (h : AR w LB o es cs) (hL : LB < w.heap.size) (hn : es.length ≤ 2147483647) :
    Calls Tryz.prog 83 #[.slice (some ⟨LB, o, none⟩) es.length cap] w fun r w' => r = .returned (.bool true) ∧ AR w' LB o es mrk ∧ Keeps (AB es) w w' := by
  obtain ⟨N, eN⟩ : ∃ N, N = es.length := ⟨_, rfl⟩
  have HS : Hid (AR w LB o es cs ∧ LB < w.heap.size ∧ N = es.length ∧ N ≤ 2147483647) := ⟨h, hL, eN, by omega⟩
  have hNz : (N : Int) ≤ 2147483647 := by omega
  rw [← eN]
  clear h hL eN hn
  go_enter Tryz.func83, Tryz.ntmps83
  go_wp2
  go_loopw [3] (fun i wr => ∃ m : Nat, m ≤ N ∧ i = .int .i64 m ∧ AR wr LB o es (csM cs m) ∧ Keeps (AB es) w wr) (fun i _ => N - (intOf i).toNat)
  case atStart => exact ⟨0, by omega, rfl, HS.out.1.same fun j r _ => by simp [csM], Keeps.refl _ _⟩
  case round =>
    obtain ⟨m, hm, rfl, hA, hK⟩ := hrel
    by_cases hlt : m < N
    · obtain ⟨e, he⟩ : ∃ e, es[m]? = some e := ⟨_, List.getElem?_eq_getElem (by have := HS.out.2.2.1; omega)⟩
      have hmz : (m : Int) < N := by omega
      obtain ⟨wo, hwo⟩ : ∃ wo, wo = wr := ⟨_, rfl⟩
      obtain ⟨n, en⟩ : ∃ n, n = e.n := ⟨_, rfl⟩
      obtain ⟨M, eM⟩ : ∃ M, M = mk m := ⟨_, rfl⟩
      have hmm := HS.out.2.2.2
      have hw1 : IntKind.i64.wrap (2 * (m : Int)) = 2 * (m : Int) := by rw [IntKind.wrap_i64]; omega
      have hw2 : IntKind.i64.wrap (-7000000 - 2 * (m : Int)) = M := by rw [IntKind.wrap_i64, eM]; unfold mk; omega
      have HM : Hid (m < N ∧ es[m]? = some e ∧ AR wo LB o es (csM cs m) ∧ Keeps (AB es) w wo ∧ n = e.n ∧ M = mk m ∧ n ≤ 2147483647) := ⟨hlt, he, by rw [hwo]; exact hA, by rw [hwo]; exact hK, en, eM, by have := hA.len m e he; omega⟩
      subst hwo
      clear hm hlt hA hK he en eM
      go_wp2
      go_loopw [4] (fun i wq => ∃ t : Nat, t ≤ n ∧ i = .int .i64 t ∧ AR wq LB o es (csT cs m t) ∧ Keeps (AB es) w wq) (fun i _ => n - (intOf i).toNat)
      case atStart =>
        refine ⟨0, by omega, rfl, HM.out.2.2.1.same fun j r _ => ?_, HM.out.2.2.2.1⟩
        unfold csT csM
        by_cases h1 : j < m
        · rw [if_pos h1, if_pos h1]
        · rw [if_neg h1, if_neg h1]
          by_cases h2 : j = m
          · rw [if_pos h2]; simp
          · rw [if_neg h2]
      case round =>
        obtain ⟨t, ht, rfl, hA, hK⟩ := hrel
        obtain ⟨g1, g2, g3, g4, g5, g6, g7⟩ := HM.out
        have cu := hA.cell m e g2
        unfold Rw.lv at cu
        rw [← g5] at cu
        by_cases hlt : t < n
        · have htz : (t : Int) < n := by omega
          have htb : (t : Int) ≤ 2147483647 := by omega
          have ho := hA.own m e g2
          have hcl := hA.cl m e g2
          unfold Rw.lv at ho
          obtain ⟨gb, l, ha, hB, hle⟩ := owns_blk ho (by omega)
          rw [ha] at cu
          have cv : ∃ x, wr.cell? ⟨gb, t, none⟩ = some x := ⟨_, hB.cell (List.getElem?_eq_getElem (show t < l.length by omega))⟩
          obtain ⟨x, cv⟩ := cv
          have fv := hB.frozen t
          have HT : Hid (t < n ∧ AR (wr.setCell ⟨gb, t, none⟩ (.int .i64 M)) LB o es (csT cs m (t + 1)) ∧ Keeps (AB es) w (wr.setCell ⟨gb, t, none⟩ (.int .i64 M))) := by
            have hob : e.lv.ownBlock = some gb := by unfold Rw.lv; rw [ha]; rfl
            have hks : Keeps (fun k => some k = e.lv.ownBlock) wr (wr.setCell ⟨gb, t, none⟩ (.int .i64 M)) := (Keeps.refl _ _).setCell _ _ fun _ => hob.symm
            have e1 : csT cs m t m e = List.replicate t (Mv m) ++ (cs m e).drop t := by unfold csT; rw [if_neg (by omega), if_pos rfl]
            have e2 : csT cs m (t + 1) m e = List.replicate (t + 1) (Mv m) ++ (cs m e).drop (t + 1) := by unfold csT; rw [if_neg (by omega), if_pos rfl]
            rw [e1] at ho hcl
            simp at hcl
            have hcs : (cs m e).length = e.n := HS.out.1.cl m e g2
            refine ⟨hlt, hA.upd g2 hks ?_ ?_ ?_, hK.trans hks fun k _ hk => ⟨m, e, g2, hk.symm⟩⟩
            · rw [ha] at ho
              have h1 := owns_setV ho t (.int .i64 M) (by omega)
              rw [e2]
              unfold Rw.lv
              rw [ha]
              have h2 := fill_setV (cs m e) (Mv m) t (by omega)
              rw [← h2]
              rw [g6] at h1 ⊢
              exact h1
            · rw [e2]; simp; omega
            · intro k e' hk
              unfold csT
              by_cases h1 : k < m
              · rw [if_pos h1, if_pos h1]
              · rw [if_neg h1, if_neg h1, if_neg hk, if_neg hk]
          clear hA hK g1 g2 g3 g4 g5 g6 g7 hlt ht ho hB hle hcl ha
          go_wp2
          go_roundw
          case rel => exact ⟨t + 1, by have := HT.out.1; omega, by go_num, HT.out.2.1, HT.out.2.2⟩
          case measure => have := HT.out.1; simp [intOf]; omega
        · obtain rfl : t = n := by omega
          have HT : Hid (m < N ∧ AR wr LB o es (csM cs (m + 1)) ∧ Keeps (AB es) w wr) := by
            refine ⟨g1, hA.same fun j r hr => ?_, hK⟩
            unfold csT csM
            by_cases h1 : j < m
            · rw [if_pos h1, if_pos (by omega)]
            · by_cases h2 : j = m
              · subst h2
                rw [if_neg h1, if_pos rfl, if_pos (by omega)]
                rw [g2] at hr
                injection hr with hr
                subst hr
                have := HS.out.1.cl j e g2
                unfold mrk
                rw [List.drop_of_length_le (by omega), List.append_nil, g5]
              · rw [if_neg h1, if_neg h2, if_neg (by omega)]
          clear hA hK g1 g2 g3 g4 g5 g6 g7 ht hlt
          go_wp2
          go_roundw
          case rel => exact ⟨m + 1, by have := HT.out.1; omega, by go_num, HT.out.2.1, HT.out.2.2⟩
          case measure => have := HT.out.1; simp [intOf]; omega
    · obtain rfl : m = N := by omega
      have HA : Hid (AR wr LB o es mrk ∧ Keeps (AB es) w wr ∧ LB < wr.heap.size) := by
        refine ⟨hA.same fun j r hr => ?_, hK, by have := hK.size; have := HS.out.2.1; omega⟩
        unfold csM
        rw [if_pos (by have := (List.getElem?_eq_some_iff.1 hr).1; have := HS.out.2.2.1; omega)]
      clear hm hlt hA hK
      obtain ⟨wA, hwA⟩ : ∃ wA, wA = wr := ⟨_, rfl⟩
      subst hwA
      go_wp2
      go_loopw [5, 6, 7] (fun vo vm i wr => ∃ p : Nat, p ≤ m ∧ i = .int .i64 p ∧ L2 wA LB o es p vo vm wr) (fun _ _ i _ => m - (intOf i).toNat)
      case atStart => exact ⟨0, by omega, rfl, L2.start HA.out.1 HA.out.2.2⟩
      case round =>
        obtain ⟨p, hp, rfl, hL⟩ := hrel
        by_cases hlt : p < m
        · obtain ⟨e, he⟩ : ∃ e, es[p]? = some e := ⟨_, List.getElem?_eq_getElem (by have := HS.out.2.2.1; omega)⟩
          have hmm := HS.out.2.2.2
          have hpz : (p : Int) < m := by omega
          have hpb : (p : Int) ≤ 2147483647 := by omega
          obtain ⟨G, eG⟩ : ∃ G, G = gk p := ⟨_, rfl⟩
          have hw1 : IntKind.i64.wrap (2 * (p : Int)) = 2 * (p : Int) := by rw [IntKind.wrap_i64]; omega
          have hw2 : IntKind.i64.wrap (-7000001 - 2 * (p : Int)) = G := by rw [IntKind.wrap_i64, eG]; unfold gk; omega
          have cu := hL.ar.cell p e he
          obtain ⟨n, en⟩ : ∃ n, n = e.n := ⟨_, rfl⟩
          unfold Rw.lv at cu
          rw [← en] at cu
          have hnb := hL.ar.len p e he
          obtain ⟨os, po, pr⟩ := hL.o1
          obtain ⟨ms, qo, qr⟩ := hL.o2
          obtain ⟨ao, co, rfl, -, -⟩ := own_slice po
          obtain ⟨am, cm, rfl, -, -⟩ := own_slice qo
          have HP : Hid (p < m ∧ es[p]? = some e ∧ L2 wA LB o es p (.slice ao p co) (.slice am p cm) wr ∧ n = e.n ∧ G = gk p ∧ n ≤ 2147483647 ∧ wr.cell? ⟨LB, o + p, none⟩ = some (.slice e.a n e.c)) := ⟨hlt, he, hL, en, eG, by omega, cu⟩
          have HO : Hid ((wr.ownsRow 0 99 1 (.slice ao p co) p os ∧ ∀ (j : Nat) (e : Rw), j < p → es[j]? = some e → ∃ v, os[j]? = some v ∧ Rw1 wA wr e j 17 v) ∧ (wr.ownsRow 0 99 1 (.slice am p cm) p ms ∧ ∀ (j : Nat) (e : Rw), j < p → es[j]? = some e → ∃ v, ms[j]? = some v ∧ Rw1 wA wr e j 72 v)) := ⟨⟨po, pr⟩, ⟨qo, qr⟩⟩
          obtain ⟨wo, hwo⟩ : ∃ wo, wo = wr := ⟨_, rfl⟩
          subst hwo
          clear hp hlt hL he en eG hmm hnb po pr qo qr
          go_wp2
          clear cu
          go_loopw [8, 9, 10] (fun v mv i wq => ∃ t : Nat, t ≤ 72 ∧ i = .int .i64 t ∧ GrI 3 (fun _ => False) wo e.a e.c (List.replicate e.n (Mv p)) (Gv p) (min t 17) t v mv wq) (fun _ _ i _ => 72 - (intOf i).toNat)
          case atStart =>
            refine ⟨0, by omega, rfl, ?_⟩
            have h1 := HP.out.2.2.1.ar.own p e HP.out.2.1
            have h2 := GrI.start (et := 3) (fun _ => False) wo e.a e.c (List.replicate e.n (Mv p)) (Gv p) (by rw [List.length_replicate]; exact h1)
            rw [List.length_replicate] at h2
            rw [HP.out.2.2.2.1]
            exact h2
          case round =>
            obtain ⟨t, ht, rfl, hG⟩ := hrel
            have hlo : ∀ b, (Value.slice e.a (List.replicate e.n (Mv p)).length e.c).ownBlock = some b → b < wo.heap.size := by
              intro b hb
              rw [List.length_replicate] at hb
              have h1 := HP.out.2.2.1
              have := h1.ab b ⟨p, e, HP.out.2.1, hb⟩
              have := h1.k.size
              omega
            have hlr : (List.replicate e.n (Mv p)).length ≤ 4294967296 := by rw [List.length_replicate]; have := HP.out; omega
            have hGv : Gv p = .int .i64 G := by rw [HP.out.2.2.2.2.1]
            by_cases hlt : t < 72
            · have htz : (t : Int) < 72 := by omega
              by_cases h17 : t < 17
              · have h17' : (t : Int) < 17 := by omega
                obtain ⟨v1, W1, hr1, hG1⟩ := GrI.one elemI rfl hG hlo hlr (by omega)
                obtain ⟨v2, W2, hr2, hG2⟩ := GrI.more elemI rfl hG1 hlo (by omega)
                rw [hGv] at hr1 hr2
                have HR1 : Hid (∀ ty, _) := hr1
                have HR2 : Hid (∀ ty, _) := hr2
                have HG : Hid (GrI 3 (fun _ => False) wo e.a e.c (List.replicate e.n (Mv p)) (Gv p) (min (t + 1) 17) (t + 1) v1 v2 W2 ∧ t < 72) := ⟨by rw [show min (t + 1) 17 = min t 17 + 1 by omega]; exact hG2, hlt⟩
                clear hG hG1 hG2 hr1 hr2 hlo hlr hGv hlt h17 ht
                go_wp2_with (at_builtin; go_must (refine wpList_append_run rfl (.tmp 53) (.tmp 57) 99 99 rfl u8 (.slice (some ⟨wr.heap.size, 0, none⟩) 1 1) v1 W1 rfl rfl HR1.out ?_; refine Hid.out ?_))
                unfold Hid
                clear HR1
                go_wp2_with (at_builtin; go_must (refine wpList_append_run rfl (.tmp 59) (.tmp 63) 99 99 rfl u9 (.slice (some ⟨W1.heap.size, 0, none⟩) 1 1) v2 W2 rfl rfl HR2.out ?_; refine Hid.out ?_))
                unfold Hid
                clear HR2
                go_wp2
                go_roundw
                case rel => exact ⟨t + 1, by have := HG.out.2; omega, by go_num, HG.out.1⟩
                case measure => have := HG.out.2; simp [intOf]; omega
              · have h17' : ¬ (t : Int) < 17 := by omega
                obtain ⟨v2, W2, hr2, hG2⟩ := GrI.more elemI rfl hG hlo (by omega)
                rw [hGv] at hr2
                have HR2 : Hid (∀ ty, _) := hr2
                have HG : Hid (GrI 3 (fun _ => False) wo e.a e.c (List.replicate e.n (Mv p)) (Gv p) (min (t + 1) 17) (t + 1) u8 v2 W2 ∧ t < 72) := ⟨by rw [show min (t + 1) 17 = min t 17 by omega]; exact hG2, hlt⟩
                clear hG hG2 hr2 hlo hlr hGv hlt h17 ht
                go_wp2_with (at_builtin; go_must (refine wpList_append_run rfl (.tmp 59) (.tmp 63) 99 99 rfl u9 (.slice (some ⟨wr.heap.size, 0, none⟩) 1 1) v2 W2 rfl rfl HR2.out ?_; refine Hid.out ?_))
                unfold Hid
                clear HR2
                go_wp2
                go_roundw
                case rel => exact ⟨t + 1, by have := HG.out.2; omega, by go_num, HG.out.1⟩
                case measure => have := HG.out.2; simp [intOf]; omega
            · have et : t = 72 := by omega
              subst et
              rw [show min 72 17 = 17 from rfl] at hG
              obtain ⟨av, cv, hav, -, -⟩ := own_slice hG.2.1
              obtain ⟨amv, cmv, hamv, -, -⟩ := own_slice hG.2.2.1
              rw [List.length_replicate, ← HP.out.2.2.2.1] at hav
              obtain ⟨nv, hnv⟩ : ∃ nv, nv = n + 17 := ⟨_, rfl⟩
              rw [← hnv] at hav
              subst hav hamv
              have h0 := HP.out.2.2.1
              have hel : ∀ b, (Value.slice e.a (List.replicate e.n (Mv p)).length e.c).ownBlock = some b → b < wA.heap.size := by
                intro b hb
                rw [List.length_replicate] at hb
                exact h0.ab b ⟨p, e, HP.out.2.1, hb⟩
              have kG : Keeps (fun k => some k = (Value.slice e.a (List.replicate e.n (Mv p)).length e.c).ownBlock) wo wr := hG.2.2.2.2.2.mono fun _ _ h => h.elim id fun h => h.elim
              have po1 := owns_kept HO.out.1.1 kG fun b hb hb2 => by have := h0.b1 b hb; have := hel b hb2.symm; omega
              obtain ⟨one', W2, hr1, hO1, hA1⟩ := app_thing (.slice av nv cv) rfl (.slice ao p co) p os po1 (by omega)
              have hG2 : GrI 3 (fun k => some k = (Value.slice ao p co).ownBlock) wo e.a e.c (List.replicate e.n (Mv p)) (Gv p) 17 72 (.slice av nv cv) (.slice amv 72 cmv) W2 :=
                hG.kept hA1.keeps (fun b hb hb2 => by have := h0.b1 b hb2.symm; have := hel b hb; omega) (fun b hb hb2 => own_ty hG.2.1 po1 (by decide) hb hb2.symm) (fun b hb hb2 => own_ty hG.2.2.1 po1 (by decide) hb hb2.symm) (fun b _ h => h) (fun b h => h.elim)
              obtain ⟨v', W3, hr2, hD, hK3⟩ := GrI.last elemI rfl hG2 hlo hlr
              obtain ⟨a3, c3, hv3, -, -⟩ := own_slice hD.2.2.1
              obtain ⟨n3, hn3⟩ : ∃ n3, n3 = (List.replicate e.n (Mv p)).length + 72 := ⟨_, rfl⟩
              rw [← hn3] at hv3
              subst hv3
              have qo1 := owns_kept HO.out.2.1 kG fun b hb hb2 => by have := h0.b2 b hb; have := hel b hb2.symm; omega
              have qo2 := owns_kept qo1 hA1.keeps fun b hb hb2 => h0.ne b hb2.symm hb
              have qo3 := owns_kept qo2 hK3 fun b hb hb2 => by have := h0.b2 b hb; have := hel b hb2.symm; omega
              obtain ⟨many', W4, hr3, hO2, hA2⟩ := app_thing (.slice a3 n3 c3) rfl (.slice am p cm) p ms qo3 (by omega)
              have hst := h0.step HP.out.2.1 hG hA1 ⟨os, HO.out.1, hO1⟩ hD hK3 hA2 ⟨ms, HO.out.2, hO2⟩
              have cu : W2.cell? ⟨LB, o + p, none⟩ = some (.slice e.a n e.c) := by
                have c1 := Ch.cell_kept HP.out.2.2.2.2.2.2 kG fun hb => by have := hel LB hb.symm; have h9 := h0.ar.out p e LB HP.out.2.1; rw [List.length_replicate] at hb; exact h9 hb.symm rfl
                exact Ch.cell_kept c1 hA1.keeps fun hb => by have := h0.b1 LB hb.symm; have := h0.lb; omega
              rw [List.length_replicate, ← HP.out.2.2.2.1] at hr2
              have HR1 : Hid (∀ ty, _) := hr1
              have HR2 : Hid (∀ ty, _) := hr2
              have HR3 : Hid (∀ ty, _) := hr3
              have HST : Hid (L2 wA LB o es (p + 1) one' many' W4 ∧ p < m) := ⟨hst, HP.out.1⟩
              clear h0 hel kG po1 hr1 hO1 hA1 hG2 hr2 hD hK3 qo1 qo2 qo3 hr3 hO2 hA2 hst hG hlo hlr hGv hlt ht HO HP hnv hn3 hw1 hw2
              go_wp2_with (at_builtin; go_must (refine wpList_append_run rfl (.tmp 65) (.tmp 67) 41 41 rfl (.slice ao p co) (.slice (some ⟨wr.heap.size, 0, none⟩) 1 1) one' W2 rfl rfl HR1.out ?_; refine Hid.out ?_))
              unfold Hid
              clear HR1
              go_wp2_with (at_builtin; go_must (refine wpList_append_run rfl (.tmp 73) (.tmp 74) 99 99 rfl (.slice e.a n e.c) (.slice amv 72 cmv) (.slice a3 n3 c3) W3 rfl rfl HR2.out ?_; refine Hid.out ?_))
              unfold Hid
              clear HR2 cu
              go_wp2_with (at_builtin; go_must (refine wpList_append_run rfl (.tmp 69) (.tmp 76) 41 41 rfl (.slice am p cm) (.slice (some ⟨W3.heap.size, 0, none⟩) 1 1) many' W4 rfl rfl HR3.out ?_; refine Hid.out ?_))
              unfold Hid
              clear HR3
              go_wp2
              go_roundw
              case rel => exact ⟨p + 1, by have := HST.out.2; omega, by go_num, HST.out.1⟩
              case measure => have := HST.out.2; simp [intOf]; omega
        · obtain rfl : p = m := by omega
          obtain ⟨os, po, pr⟩ := hL.o1
          obtain ⟨ms, qo, qr⟩ := hL.o2
          obtain ⟨ao, co, rfl, -, -⟩ := own_slice po
          obtain ⟨am, cm, rfl, -, -⟩ := own_slice qo
          have HL : Hid (L2 wA LB o es p (.slice ao p co) (.slice am p cm) wr ∧ p = es.length ∧ p ≤ 2147483647) := ⟨hL, HS.out.2.2⟩
          have HO : Hid ((wr.ownsRow 0 99 1 (.slice ao p co) p os ∧ ∀ (j : Nat) (e : Rw), j < p → es[j]? = some e → ∃ v, os[j]? = some v ∧ Rw1 wA wr e j 17 v) ∧ (wr.ownsRow 0 99 1 (.slice am p cm) p ms ∧ ∀ (j : Nat) (e : Rw), j < p → es[j]? = some e → ∃ v, ms[j]? = some v ∧ Rw1 wA wr e j 72 v)) := ⟨⟨po, pr⟩, ⟨qo, qr⟩⟩
          have HF : Hid (Keeps (AB es) w wA) := HA.out.2.1
          clear hp hlt hL po pr qo qr HA HS
          obtain ⟨wB, hwB⟩ : ∃ wB, wB = wr := ⟨_, rfl⟩
          subst hwB
          go_wp2
          go_loopw [11] (fun i wr => ∃ q : Nat, q ≤ p ∧ i = .int .i64 q ∧ wr = wB) (fun i _ => p - (intOf i).toNat)
          case atStart => exact ⟨0, by omega, rfl, rfl⟩
          case round =>
            obtain ⟨q, hq, rfl, rfl⟩ := hrel
            by_cases hlt : q < p
            · obtain ⟨e, he⟩ : ∃ e, es[q]? = some e := ⟨_, List.getElem?_eq_getElem (by have := HL.out.2.1; omega)⟩
              have hqz : (q : Int) < p := by omega
              have hqb : (q : Int) ≤ 2147483647 := by have := HL.out.2.2; omega
              obtain ⟨n, en⟩ : ∃ n, n = e.n := ⟨_, rfl⟩
              obtain ⟨v1, i1, r1, -⟩ := HO.out.1.2 q e hlt he
              obtain ⟨v2, i2, r2, -⟩ := HO.out.2.2 q e hlt he
              obtain ⟨g1, rfl, c1⟩ := owns_sliceT HO.out.1.1 q v1 i1
              obtain ⟨g2, rfl, c2⟩ := owns_sliceT HO.out.2.1 q v2 i2
              have r0 := HL.out.1.ar.own q e he
              have cu := HL.out.1.ar.cell q e he
              have hnb := HL.out.1.ar.len q e he
              obtain ⟨a1, k1, rfl, -, -⟩ := own_slice r1
              obtain ⟨a2, k2, rfl, -, -⟩ := own_slice r2
              unfold Rw.lv at cu r0
              rw [← en] at cu r0 r1 r2 c1 c2 hnb
              have r0' : wr.ownsRow 0 3 1 (.slice e.a (n + 0) e.c) (n + 0) (two q n 0) := by
                have e0 : mrk q e = two q n 0 := by unfold mrk two; rw [en]; simp
                rw [e0] at r0
                exact r0
              have H0 : Hid (Calls _ _ _ _ _) := allInts_any e.a e.c n 0 q wr r0' (by omega) (by omega)
              have H1 : Hid (Calls _ _ _ _ _) := allInts_any a1 k1 n 17 q wr r1 (by omega) (by omega)
              have H2 : Hid (Calls _ _ _ _ _) := allInts_any a2 k2 n 72 q wr r2 (by omega) (by omega)
              obtain ⟨n1, hn1⟩ : ∃ n1, n1 = n + 17 := ⟨_, rfl⟩
              obtain ⟨n2, hn2⟩ : ∃ n2, n2 = n + 72 := ⟨_, rfl⟩
              rw [← hn1] at H1 c1
              rw [← hn2] at H2 c2
              rw [Nat.add_zero] at H0
              have HQ : Hid (q < p) := hlt
              clear HL HO hlt hq he en i1 i2 r0 r0' r1 r2 hnb hn1 hn2
              go_wp2_with fail
              refine H0.out.mono ?_
              rintro e' w1 ⟨rfl, rfl⟩
              go_wp2_with fail
              refine H1.out.mono ?_
              rintro e' w2 ⟨rfl, rfl⟩
              go_wp2_with fail
              refine H2.out.mono ?_
              rintro e' w3 ⟨rfl, rfl⟩
              go_wp2
              go_roundw
              case rel => exact ⟨q + 1, by have := HQ.out; omega, by go_num, trivial⟩
              case measure => have := HQ.out; simp [intOf]; omega
            · obtain rfl : q = p := by omega
              go_wp2
              go_ret
              exact ⟨rfl, HL.out.1.ar, HF.out.trans HL.out.1.k fun b _ hb => hb⟩

end Go.Proofs.YtipejahmjdamjaaGreatDoor
namespace Go.Proofs.YtipejahmjdamjaaGreatDoor
open Go.RowKit Go.Shelf
set_option linter.unusedVariables false
set_option linter.unusedSimpArgs false
set_option maxRecDepth 20000

/-! ### Leaves of one's own -/
open Tl (flatL flatL_length flatL_append flatL_one flatL_get flatL_set)
theorem app_leaf2 {w : World} (l : Tl.Lf) (a0 : Option Addr) (n c0 : Nat) (vs : List Value) (hown : w.ownsRow 0 64 3 (.slice a0 n c0) n vs) (hn : n ≤ 8589934000) :
    ∃ v' W', (∀ ty, (Builtin.append_ #[42, 42] ty #[.slice a0 n c0, .slice (some ⟨w.heap.size, 0, none⟩) 1 1]).run Tryz.prog (w.alloc (.cells #[.int .i64 l.p, .int .i64 l.f, .int .i64 l.r] 64)) = .ok v' W') ∧ W'.ownsRow 0 64 3 v' (n + 1) (vs ++ l.vs) ∧
      ((v' = .slice a0 (n + 1) c0 ∧ Keeps (fun k => some k = (Value.slice a0 n c0).ownBlock) w W') ∨ ((∃ k, v'.ownBlock = some k ∧ w.heap.size ≤ k) ∧ Keeps (fun _ => False) w W')) := by
  obtain ⟨W, eW⟩ : ∃ W, W = w.alloc (.cells #[.int .i64 l.p, .int .i64 l.f, .int .i64 l.r] 64) := ⟨_, rfl⟩
  have kW : Keeps (fun _ => False) w W := by rw [eW]; exact (Keeps.refl _ w).alloc _
  have hB : Blk W w.heap.size l.vs 64 := by rw [eW]; exact Blk.new w _ 64
  have hown1 := owns_kept hown kW (fun _ _ h => h)
  rw [← eW]
  have hsz := kW.size
  obtain ⟨i0, hi, hz, hs, hb⟩ := info_parts Tl.Tryz.info64
  have hnews : ∀ j u, l.vs[j]? = some u → W.cell? ((⟨w.heap.size, 0, none⟩ : Addr).add j) = some u := fun j u hj => by rw [addr_add, Nat.zero_add]; exact hB.cell hj
  have h1 : ∀ u ∈ l.vs, u.oneCell' = true := by
    intro u hu
    simp [Tl.Lf.vs] at hu
    rcases hu with rfl | rfl | rfl <;> rfl
  have hl : l.vs.length = 1 * 3 := rfl
  have hbytes : (n + 1) * 24 ≤ 140737488355328 := by omega
  obtain ⟨v', W', hr, ho, hfr, hK⟩ := append_many 42 64 i0 _ 3 24 Tryz.underlying42 hi hz hs hb rfl (by omega) (.slice a0 n c0) n vs hown1 ⟨w.heap.size, 0, none⟩ 1 1 l.vs hl hnews h1 (by unfold maxLen; omega) hbytes
  refine ⟨v', W', hr, ho, ?_⟩
  rcases hown1.2 with ⟨h0, hn0⟩ | ⟨g, cap, cur, h0, _, hg1, hnc, hcm, hcs, htake⟩
  · right
    cases h0
    have h2 := run_append_nil (P := Tryz.prog) W 42 0 64 i0 _ Tryz.underlying42 hi hz ⟨w.heap.size, 0, none⟩ 1 1 l.vs (by rw [hs]; rfl) hnews (by omega) (by omega) (by rw [hb]; omega)
    rw [hr] at h2
    have e1 := (Result.ok.inj h2)
    refine ⟨⟨_, by rw [e1.1]; rfl, by simp; omega⟩, ?_⟩
    rw [e1.2]
    exact ((kW.drew)).alloc _
  · cases h0
    by_cases hroom : n + 1 ≤ c0
    · left
      refine ⟨?_, kW.none.trans hK fun _ _ h => h⟩
      have h2 := run_append_room (P := Tryz.prog) W 42 0 64 i0 Tryz.underlying42 hi g n c0 cur hg1 ⟨w.heap.size, 0, none⟩ 1 1 l.vs (by rw [hs]; rfl) hnews h1 hroom (by rw [hs, hcs]; simp [Tl.Lf.vs]; omega)
      rw [hr] at h2
      exact (Result.ok.inj h2).1
    · right
      have h2 := run_append_grow (P := Tryz.prog) W 42 0 64 i0 _ Tryz.underlying42 hi hz ⟨g, 0, none⟩ n c0 vs (by rw [hs]; exact hown1.1) (hown1.cells rfl) ⟨w.heap.size, 0, none⟩ 1 1 l.vs (by rw [hs]; rfl) hnews (by omega) (by omega) (by
        rw [hb]; exact growslice_fits (by omega) hbytes)
      rw [hr] at h2
      have e1 := (Result.ok.inj h2)
      refine ⟨⟨_, by rw [e1.1]; rfl, by simp; omega⟩, ?_⟩
      rw [e1.2]
      exact ((kW.drew)).alloc _
theorem owns_prefix3 {w : World} {a : Option Addr} {n m c : Nat} {xs ys : List Tl.Lf} (h : w.ownsRow 0 64 3 (.slice a (n + m) c) (n + m) (flatL (xs ++ ys))) (hx : xs.length = n) : w.ownsRow 0 64 3 (.slice a n c) n (flatL xs) := by
  have hxl : (flatL xs).length = n * 3 := by rw [flatL_length, hx]
  refine ⟨hxl, ?_⟩
  rcases h.2 with ⟨h0, hn0⟩ | ⟨g, cap, cur, h0, hb, hg1, hnc, hcm, hcs, htake⟩
  · have : n = 0 := by omega
    have hm : m = 0 := by omega
    subst this hm
    exact .inl ⟨h0, rfl⟩
  · cases h0
    refine .inr ⟨g, c, cur, rfl, hb, hg1, by omega, hcm, hcs, ?_⟩
    have h2 : (cur.toList.take ((n + m) * 3)).take (n * 3) = cur.toList.take (n * 3) := by rw [List.take_take]; congr 1; omega
    rw [← h2, htake, flatL_append, List.take_append_of_le_length (by omega), List.take_of_length_le (by omega)]

/-- One leaf is written over. -/
theorem owns_setLeaf {w : World} {g n cap : Nat} {xs : List Tl.Lf} (h : w.ownsRow 0 64 3 (.slice (some ⟨g, 0, none⟩) n cap) n (flatL xs)) (l : Tl.Lf) {k : Nat} (hk : k < n) :
    (((w.setCell ⟨g, k * 3, none⟩ (.int .i64 l.p)).setCell ⟨g, k * 3 + 1, none⟩ (.int .i64 l.f)).setCell ⟨g, k * 3 + 2, none⟩ (.int .i64 l.r)).ownsRow 0 64 3 (.slice (some ⟨g, 0, none⟩) n cap) n (flatL (xs.set k l)) := by
  have hx : xs.length = n := by have := h.1; rw [flatL_length] at this; omega
  rcases h.2 with ⟨h0, _⟩ | ⟨g2, cap2, cur, h0, hb, hg, hnc, hcm, hcs, ht⟩
  · cases h0
  · cases h0
    have hB : Blk w g cur.toList 64 := by unfold Blk; rw [hg]
    have hB' := ((hB.setCell (k * 3) (.int .i64 l.p)).setCell (k * 3 + 1) (.int .i64 l.f)).setCell (k * 3 + 2) (.int .i64 l.r)
    refine ⟨by rw [flatL_length]; simp [hx], .inr ⟨g, cap, _, rfl, hb, hB', hnc, hcm, by simp; omega, ?_⟩⟩
    rw [← flatL_set xs k l (by omega), ← ht]
    simp only [List.take_set]
theorem row_cells {w : World} {g n cap : Nat} {xs : List Tl.Lf} (h : w.ownsRow 0 64 3 (.slice (some ⟨g, 0, none⟩) n cap) n (flatL xs)) {k : Nat} (hk : k < n) :
    (∃ x, w.cell? ⟨g, k * 3, none⟩ = some x) ∧ (∃ x, w.cell? ⟨g, k * 3 + 1, none⟩ = some x) ∧ (∃ x, w.cell? ⟨g, k * 3 + 2, none⟩ = some x) ∧ ∀ i, w.frozen? ⟨g, i, none⟩ = false := by
  rcases h.2 with ⟨h0, _⟩ | ⟨g2, cap2, cur, h0, hb, hg, hnc, hcm, hcs, ht⟩
  · cases h0
  · cases h0
    have hB : Blk w g cur.toList 64 := by unfold Blk; rw [hg]
    exact ⟨⟨_, hB.cell (List.getElem?_eq_getElem (by simp; omega))⟩, ⟨_, hB.cell (List.getElem?_eq_getElem (by simp; omega))⟩, ⟨_, hB.cell (List.getElem?_eq_getElem (by simp; omega))⟩, fun i => hB.frozen i⟩

def lm (m : Int) : Tl.Lf := ⟨m, 0, 0⟩
def marksL (n : Nat) (m : Int) : List Tl.Lf := List.replicate n (lm m)
def fillL (ls : List Tl.Lf) (m : Int) (k : Nat) : List Tl.Lf := marksL k m ++ ls.drop k
theorem fillL_set (ls : List Tl.Lf) (m : Int) {k : Nat} (h : k < ls.length) : (fillL ls m k).set k (lm m) = fillL ls m (k + 1) := by
  unfold fillL marksL
  rw [List.set_append_right _ _ (by simp)]
  rw [List.length_replicate, Nat.sub_self, List.drop_eq_getElem_cons h, List.set_cons_zero, List.replicate_succ', List.append_assoc]
  rfl
theorem fillL_all (ls : List Tl.Lf) (m : Int) {k : Nat} (h : k = ls.length) : fillL ls m k = marksL k m := by
  unfold fillL
  rw [List.drop_of_length_le (by omega), List.append_nil]

/-- A row of leaves, and what grew out of it. -/
def GrL (w0 : World) (a : Option Addr) (n c : Nat) (m g : Int) (p : Nat) (v : Value) (w : World) : Prop :=
  w.ownsRow 0 64 3 (.slice a n c) n (flatL (marksL n m)) ∧ w.ownsRow 0 64 3 v (n + p) (flatL (marksL n m ++ marksL p g)) ∧
  (v = .slice a (n + p) c ∨ ∃ b, v.ownBlock = some b ∧ w0.heap.size ≤ b) ∧ Keeps (fun k => some k = (Value.slice a n c).ownBlock) w0 w
theorem GrL.start {w0 : World} {a : Option Addr} {n c : Nat} {m : Int} (g : Int) (h : w0.ownsRow 0 64 3 (.slice a n c) n (flatL (marksL n m))) : GrL w0 a n c m g 0 (.slice a n c) w0 :=
  ⟨h, by simpa [marksL] using h, .inl rfl, Keeps.refl _ _⟩
theorem GrL.one {w0 w : World} {a : Option Addr} {n c : Nat} {m g : Int} {p : Nat} {v : Value} (h : GrL w0 a n c m g p v w) (h0 : ∀ b, (Value.slice a n c).ownBlock = some b → b < w0.heap.size) (hn : n ≤ 4294967296) (hp : p ≤ 64) :
    ∃ v' W', (∀ ty, (Builtin.append_ #[42, 42] ty #[v, .slice (some ⟨w.heap.size, 0, none⟩) 1 1]).run Tryz.prog (w.alloc (.cells #[.int .i64 g, .int .i64 0, .int .i64 0] 64)) = .ok v' W') ∧ GrL w0 a n c m g (p + 1) v' W' := by
  obtain ⟨h1, h2, h3, h4⟩ := h
  obtain ⟨av, cv, rfl, _, _⟩ := own_slice h2
  obtain ⟨v', W', r1, r2, r3⟩ := app_leaf2 (lm g) av (n + p) cv _ h2 (by omega)
  refine ⟨v', W', r1, ?_⟩
  have e1 : flatL (marksL n m ++ marksL p g) ++ (lm g).vs = flatL (marksL n m ++ marksL (p + 1) g) := by
    rw [← flatL_one, ← flatL_append, List.append_assoc]
    unfold marksL
    rw [← List.replicate_succ']
  rw [e1] at r2
  have hsz := h4.size
  rcases r3 with ⟨r4, r5⟩ | ⟨⟨k, r4, r6⟩, r5⟩
  · rcases h3 with h3 | ⟨b, h3, h5⟩
    · injection h3 with e2 e3 e4
      subst e2 e4
      rw [r4] at r2 ⊢
      rw [Nat.add_assoc] at r2
      refine ⟨owns_prefix3 (m := p + 1) (ys := marksL (p + 1) g) r2 (by simp [marksL]), ?_, .inl (by rw [Nat.add_assoc]), ?_⟩
      · rw [Nat.add_assoc]; exact r2
      · exact h4.trans r5 fun b _ hb => by rw [own_any _ _ _ n av.isSome.toNat] at hb; rw [hb]; exact own_any _ _ _ _ _
    · have hne : ∀ b, (Value.slice a n c).ownBlock = some b → ¬ some b = (Value.slice av (n + p) cv).ownBlock := by
        intro b2 hb hb2
        rw [h3] at hb2
        injection hb2 with hb2
        have := h0 b2 hb
        omega
      refine ⟨owns_kept h1 r5 hne, r2, .inr ⟨b, ?_, h5⟩, h4.trans r5 fun b2 hb hb2 => ?_⟩
      · rw [r4, ← h3]; exact own_any _ _ _ _ _
      · rw [h3] at hb2
        injection hb2 with hb2
        omega
  · exact ⟨owns_kept h1 r5 fun _ _ h => h, r2, .inr ⟨k, r4, by omega⟩, h4.trans r5 fun _ _ h => h.elim⟩

set_option maxHeartbeats 1000000 in
theorem leavesM_any (a : Option Addr) (n c : Nat) (ls : List Tl.Lf) (f t : Nat) (m : Int) (w : World) (hs : Tl.SegL w a ls) (hn : n = ls.length) (ht : t ≤ n) (hft : f ≤ t) (hb : t ≤ 4294967296) (hm : ∀ i, f ≤ i → i < t → ∀ x, ls[i]? = some x → x.p = m) :
    Calls Tryz.prog 82 #[.slice a n c, .int .i64 f, .int .i64 t, .int .i64 m] w fun e w' => e = .returned (.bool true) ∧ w' = w := by
  have HS : Hid (Tl.SegL w a ls ∧ n = ls.length ∧ t ≤ n ∧ ∀ i, f ≤ i → i < t → ∀ x, ls[i]? = some x → x.p = m) := ⟨hs, hn, ht, hm⟩
  have hbz : (t : Int) ≤ 4294967296 := by omega
  have htz : (t : Int) ≤ n := by omega
  clear hs hn ht hm hb
  go_enter Tryz.func82, Tryz.ntmps82
  go_wp2
  go_loopw [9] (fun i wr => ∃ j : Nat, f ≤ j ∧ j ≤ t ∧ i = .int .i64 j ∧ wr = w) (fun i _ => t - (intOf i).toNat)
  case atStart => exact ⟨f, by omega, by omega, rfl, rfl⟩
  case round =>
    obtain ⟨j, hj, hj2, rfl, rfl⟩ := hrel
    by_cases hlt : j < t
    · obtain ⟨x, hx⟩ : ∃ x, ls[j]? = some x := ⟨_, List.getElem?_eq_getElem (by have := HS.out; omega)⟩
      have hjz : (j : Int) < t := by omega
      have hjn : (j : Int) < n := by omega
      have hp := HS.out.2.2.2 j hj hlt x hx
      rcases HS.out.1 with h0 | ⟨g, o, rfl, hc⟩
      · rw [h0] at hx; simp at hx
      · have c0 := (hc j x hx).1
        rw [hp] at c0
        have HJ : Hid (f ≤ j ∧ j < t) := ⟨hj, hlt⟩
        clear hj hj2 hlt hc hp hx hft
        go_wp2
        go_roundw
        case rel => exact ⟨j + 1, by have := HJ.out; omega, by have := HJ.out; omega, by go_num, trivial⟩
        case measure => have := HJ.out; simp [intOf]; omega
    · obtain rfl : j = t := by omega
      go_wp2
      go_ret
      exact ⟨rfl, rfl⟩

end Go.Proofs.YtipejahmjdamjaaGreatDoor
