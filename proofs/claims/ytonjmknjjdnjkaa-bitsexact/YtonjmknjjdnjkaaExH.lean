import Derived.Test.YtonjmknjjdnjkaaExG
namespace Go.Proofs.Ytonjmknjjdnjkaa
open Go.RowKit
set_option linter.unusedVariables false

theorem append_seg {w : World} (v : Value) (n c : Nat) (vs : List Value) (hown : w.ownsRow 0 5 1 v n vs) (a : Option Addr) (xs : List UInt8) (hx : Seg w a xs) (hm : n + xs.length ≤ 70368744177664) :
    ∃ v' W', (∀ ty, (Builtin.append_ #[38, 38] ty #[v, .slice a xs.length c]).run Try.prog w = .ok v' W') ∧ W'.ownsRow 0 5 1 v' (n + xs.length) (vs ++ bvs xs) ∧ Grew w v W' v' := by
  obtain ⟨i0, hi, hz0, hz1, hz2⟩ := info_parts Try.info5
  have some_way : ∀ b : Addr, (∀ j u, (bvs xs)[j]? = some u → w.cell? (b.add j) = some u) → ∃ v' W', (∀ ty, (Builtin.append_ #[38, 38] ty #[v, .slice (some b) xs.length c]).run Try.prog w = .ok v' W') ∧ W'.ownsRow 0 5 1 v' (n + xs.length) (vs ++ bvs xs) ∧ Grew w v W' v' := by
    intro b hb
    obtain ⟨v', W', h1, h2, h3, h4⟩ := append_many 38 5 i0 (.int .u8 0) 1 1 Try.underlying38 hi hz0 hz1 hz2 rfl (by omega) v n vs hown b xs.length c (bvs xs) (by rw [bvs_length]; omega) hb (bvs_one xs) (by unfold maxLen; omega) (by omega)
    exact ⟨v', W', h1, h2, h3, h4⟩
  rcases hx with rfl | ⟨g, o, rfl, hc⟩
  · cases a with
    | none => exact ⟨v, w, fun ty => append_none 38 5 i0 1 Try.underlying38 hi hz1 (by omega) v n c vs hown ty, by simpa [bvs] using hown, Grew.refl _ _⟩
    | some b => exact some_way b (by intro j u h; simp [bvs] at h)
  · refine some_way _ fun j u hj => ?_
    have hlt : j < xs.length := by
      have := (List.getElem?_eq_some_iff.1 hj).1
      rw [bvs_length] at this
      exact this
    rw [bvs_get xs j hlt] at hj
    rw [addr_add, hc j hlt]
    exact hj

theorem append_segW {w : World} (v : Value) (n c : Nat) (vs : List Value) (hown : w.ownsRow 0 36 1 v n vs) (a : Option Addr) (xs : List UInt32) (hx : SegW w a xs) (hm : n + xs.length ≤ 17592186044416) :
    ∃ v' W', (∀ ty, (Builtin.append_ #[39, 39] ty #[v, .slice a xs.length c]).run Try.prog w = .ok v' W') ∧ W'.ownsRow 0 36 1 v' (n + xs.length) (vs ++ wvs xs) ∧ Grew w v W' v' := by
  obtain ⟨i0, hi, hz0, hz1, hz2⟩ := info_parts Try.info36
  have hone : ∀ v ∈ wvs xs, v.oneCell' = true := by
    intro v hv
    obtain ⟨x, _, rfl⟩ := List.mem_map.1 hv
    rfl
  have some_way : ∀ b : Addr, (∀ j u, (wvs xs)[j]? = some u → w.cell? (b.add j) = some u) → ∃ v' W', (∀ ty, (Builtin.append_ #[39, 39] ty #[v, .slice (some b) xs.length c]).run Try.prog w = .ok v' W') ∧ W'.ownsRow 0 36 1 v' (n + xs.length) (vs ++ wvs xs) ∧ Grew w v W' v' := by
    intro b hb
    obtain ⟨v', W', h1, h2, h3, h4⟩ := append_many 39 36 i0 (.int .u32 0) 1 4 (by kernel_rfl) hi hz0 hz1 hz2 rfl (by omega) v n vs hown b xs.length c (wvs xs) (by rw [wvs_length]; omega) hb hone (by unfold maxLen; omega) (by omega)
    exact ⟨v', W', h1, h2, h3, h4⟩
  rcases hx with rfl | ⟨g, o, rfl, hc⟩
  · cases a with
    | none => exact ⟨v, w, fun ty => append_none 39 36 i0 1 (by kernel_rfl) hi hz1 (by omega) v n c vs hown ty, by simpa [wvs] using hown, Grew.refl _ _⟩
    | some b => exact some_way b (by intro j u h; simp [wvs] at h)
  · refine some_way _ fun j u hj => ?_
    have hlt : j < xs.length := by
      have := (List.getElem?_eq_some_iff.1 hj).1
      rw [wvs_length] at this
      exact this
    rw [wvs_get xs j hlt] at hj
    rw [addr_add, hc j hlt]
    exact hj

/-- What has grown out of nothing is new. -/
theorem Grew.new {w w' : World} {v' : Value} (h : Grew w (.slice none 0 0) w' v') : (∀ k, v'.ownBlock = some k → w.heap.size ≤ k) ∧ Keeps (fun _ => False) w w' := by
  refine ⟨?_, h.keeps.mono fun k _ e => by cases e⟩
  intro k hk
  rcases h.fresh with e | ⟨k', e, h2⟩
  · rw [e] at hk; cases hk
  · rw [e] at hk; cases hk; exact h2

set_option maxHeartbeats 400000 in
theorem refPack_any (a : Option Addr) (c : Nat) (ws : List UInt32) (w : World) (hx : SegW w a ws) (hl : ws.length ≤ 4398046511104) :
    Calls Try.prog 55 #[.slice a ws.length c] w fun e w' => ∃ v', e = .returned v' ∧ w'.ownsRow 0 5 1 v' (packB ws).length (bvs (packB ws)) ∧ Grew w (.slice none 0 0) w' v' := by
  obtain ⟨n, hn⟩ : ∃ n, n = ws.length := ⟨_, rfl⟩
  have HN : Hid (n = ws.length) := hn
  have HX : Hid (SegW w a ws) := hx
  have HLL : Hid (True ∧ ws.length ≤ 4398046511104) := ⟨trivial, hl⟩
  rw [← hn] at hl ⊢
  have hl' : (n : Int) ≤ 4398046511104 := by omega
  clear hn hx hl
  go_enter Try.func55, Try.ntmps55
  go_wp2
  go_loopw [3, 4] (fun o i wr => ∃ j : Nat, j ≤ n ∧ i = .int .i64 j ∧ wr.ownsRow 0 5 1 o (packB (ws.take j)).length (bvs (packB (ws.take j))) ∧ Grew w (.slice none 0 0) wr o)
    (fun _ i _ => n - (intOf i).toNat)
  case atStart => exact ⟨0, Nat.zero_le _, rfl, World.ownsRow_nil _ _ _ _, Grew.refl _ _⟩
  case round =>
    obtain ⟨j, hj, rfl, hB, hG⟩ := hrel
    by_cases hlt : j < n
    · have hjx : j < ws.length := by have := HN.out; omega
      have hs : SegW wr a ws := HX.out.kept hG.new.2 (fun _ _ e => e)
      rcases hs with hs | ⟨g, o, rfl, hc⟩
      · rw [hs] at hjx; simp at hjx
      have hcell := hc j hjx
      have hxlt := (ws[j]).toNat_lt
      have hpl := packB_length (ws.take j)
      rw [List.length_take] at hpl
      have hlow := low_any 4 (ws[j]).toNat _ u3 _ wr hB (by omega) (by omega) (by have := HLL.out.2; omega)
      rw [← packB_take ws j hjx, hpl] at hlow
      have hpl2 := packB_length (ws.take (j + 1))
      rw [List.length_take] at hpl2
      have he4 : 4 * min j ws.length + 4 = (packB (ws.take (j + 1))).length := by rw [hpl2]; omega
      rw [he4] at hlow
      obtain ⟨X, hX⟩ : ∃ X, X = (ws[j]).toNat := ⟨_, rfl⟩
      rw [← hX] at hcell hlow
      have HCL : Hid (Calls _ _ _ _ _) := hlow
      have HG : Hid (Grew _ _ wr _) := hG
      have hcv : IntKind.u64.wrap (X : Int) = X := by rw [IntKind.wrap_u64]; omega
      clear hX hxlt hlow hB hG hpl hpl2 hc he4
      go_wp2_with fail
      refine HCL.out.mono ?_
      rintro e w2 ⟨v', rfl, ho, hg2⟩
      have HO : Hid (w2.ownsRow _ _ _ _ _ _) := ho
      have HG2 : Hid (Grew w _ w2 v') := HG.out.trans hg2
      clear ho hg2 HCL HG
      go_wp2
      go_roundw
      case rel => exact ⟨j + 1, by omega, by go_num, HO.out, HG2.out⟩
      case measure => simp [intOf]; omega
    · obtain rfl : j = n := by omega
      have HB : Hid (wr.ownsRow _ _ _ _ _ _) := hB
      have HG : Hid (Grew _ _ wr _) := hG
      clear hB hG
      go_wp2
      go_ret
      refine ⟨_, rfl, ?_, HG.out⟩
      have := HB.out
      rw [List.take_of_length_le (by have := HN.out; omega)] at this
      exact this

set_option maxHeartbeats 400000 in
theorem refUnpack_short (a : Option Addr) (c : Nat) (len : Nat) (w : World) (hl : len ≤ maxLen) (h : len % 4 ≠ 0) :
    Calls Try.prog 57 #[.slice a len c] w fun e w' => e = .returned (.tuple #[.slice none 0 0, .int .i64 12]) ∧ w' = w := by
  unfold maxLen at hl
  have h1 : (((len : Int)) % 4 != 0) = true := by simp only [bne_iff_ne]; omega
  have h2 : ((len : Int)).tmod 4 = (len : Int) % 4 := by rw [Int.tmod_eq_emod_of_nonneg (by omega)]
  clear h
  go_enter Try.func57, Try.ntmps57
  go_wp2
  go_ret2
  exact ⟨rfl, rfl⟩

set_option maxHeartbeats 400000 in
theorem refUnpack_any (a : Option Addr) (c m : Nat) (xs : List UInt8) (w : World) (hx : Seg w a xs) (hm : xs.length = 4 * m) (hl : m ≤ 4398046511104) (hc4 : 4 * m ≤ c) (hcm : c ≤ maxLen) :
    Calls Try.prog 57 #[.slice a xs.length c] w fun e w' => ∃ v', e = .returned (.tuple #[v', .int .i64 0]) ∧ w'.ownsRow 0 36 1 v' m (wvs (unpackW xs m)) ∧ Grew w (.slice none 0 0) w' v' := by
  unfold maxLen at hcm
  have HL : Hid (xs.length = 4 * m) := hm
  rw [hm]
  have HX : Hid (Seg w a xs) := hx
  have HLL : Hid (True ∧ m ≤ 4398046511104) := ⟨trivial, hl⟩
  have h1 : ((4 * (m : Int)) % 4 != 0) = false := by simp only [bne_eq_false_iff_eq]; omega
  have hl' : (m : Int) ≤ 4398046511104 := by omega
  clear hm hx hl
  go_enter Try.func57, Try.ntmps57
  go_wp2
  clear h1
  go_loopw [4, 5] (fun o i wr => ∃ j : Nat, j ≤ m ∧ i = .int .i64 (4 * (j : Int)) ∧ wr.ownsRow 0 36 1 o j (wvs (unpackW xs j)) ∧ Grew w (.slice none 0 0) wr o)
    (fun _ i _ => 4 * m - (intOf i).toNat)
  case atStart => exact ⟨0, Nat.zero_le _, rfl, World.ownsRow_nil _ _ _ _, Grew.refl _ _⟩
  case round =>
    obtain ⟨j, hj, rfl, hB, hG⟩ := hrel
    by_cases hlt : j < m
    · have hs : Seg wr a xs := HX.out.kept hG.new.2 (fun _ _ e => e)
      rcases hs with hs | ⟨g, o, rfl, hcell⟩
      · have := HL.out; rw [hs] at this; simp at this; omega
      have hlx := HL.out
      have hl4 : ((xs.drop (4 * j)).take 4).length = 4 := by rw [List.length_take, List.length_drop]; omega
      have hU := highN_lt ((xs.drop (4 * j)).take 4)
      rw [hl4] at hU
      have hu : (UInt32.ofNat (highN ((xs.drop (4 * j)).take 4))).toNat = highN ((xs.drop (4 * j)).take 4) := by
        rw [UInt32.toNat_ofNat']; exact Nat.mod_eq_of_lt hU
      obtain ⟨v', W', happ, hown', hfr'⟩ := append_word (UInt32.ofNat (highN ((xs.drop (4 * j)).take 4))) u4 j _ hB (by have := HLL.out.2; omega)
      rw [hu] at happ
      have hhigh := fun cc => high_any g (o + 4 * j) 4 cc ((xs.drop (4 * j)).take 4) wr (fun i hi => by
          rw [hl4] at hi
          rw [Nat.add_assoc, hcell (4 * j + i) (by omega)]
          simp) hl4 (by omega)
      have HR : Hid (W'.ownsRow 0 36 1 v' (j + 1) (wvs (unpackW xs (j + 1)))) := by
        rw [unpackW_succ]
        show W'.ownsRow 0 36 1 v' (j + 1) (List.map _ (_ ++ _))
        rw [List.map_append]
        exact hown'
      obtain ⟨U, hUU⟩ : ∃ U, U = highN ((xs.drop (4 * j)).take 4) := ⟨_, rfl⟩
      rw [← hUU] at hU happ hhigh
      have HAP : Hid (∀ ty, _) := happ
      have HH : Hid (∀ cc, _) := hhigh
      have HG : Hid (Grew w _ W' v') := hG.trans hfr'
      have hcv : IntKind.u32.wrap (U : Int) = U := by rw [IntKind.wrap_u32]; omega
      have hcv2 : (U : Int) % 4294967296 = U := by omega
      have hlt' : (4 * (j : Int)) < 4 * (m : Int) := by omega
      clear happ hhigh hown' hfr' hB hG hlx hl4 hU hu hUU hcell
      go_wp2_with fail
      refine (HH.out _).mono ?_
      rintro e w' ⟨rfl, hw'⟩; obtain rfl := hw'.symm
      go_wp2_with (at_builtin; go_must (refine wpList_append_run rfl (.tmp 16) (.tmp 24) 39 39 rfl u4 (.slice (some ⟨wr.heap.size, 0, none⟩) 1 1) v' W' rfl rfl HAP.out ?_))
      go_roundw
      case rel => exact ⟨j + 1, by omega, by go_num, HR.out, HG.out⟩
      case measure => simp [intOf]; omega
    · obtain rfl : j = m := by omega
      have HB : Hid (wr.ownsRow _ _ _ _ _ _) := hB
      have HG : Hid (Grew _ _ wr _) := hG
      clear hB hG
      go_wp2
      go_ret2
      exact ⟨_, rfl, HB.out, HG.out⟩
end Go.Proofs.Ytonjmknjjdnjkaa
