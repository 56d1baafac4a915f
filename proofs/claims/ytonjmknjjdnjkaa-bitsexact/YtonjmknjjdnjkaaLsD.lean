import Derived.Test.YtonjmknjjdnjkaaLsC
namespace Go.Proofs.Ytonjmknjjdnjkaa
open Go.RowKit
set_option linter.unusedVariables false
set_option linter.unusedSimpArgs false

/-- What Unpack tells, whole words or not. -/
def upL (xs : List UInt8) : List UInt32 := if xs.length % 4 = 0 then unpackW xs (xs.length / 4) else []
def upE (xs : List UInt8) : Int := if xs.length % 4 = 0 then 0 else 12
theorem upL_le (xs : List UInt8) : 4 * (upL xs).length ≤ xs.length := by
  unfold upL
  split
  · rw [unpackW_length]; omega
  · simp
theorem unpack_both (a : Option Addr) (c : Nat) (xs : List UInt8) (w : World) (hx : Seg w a xs) (hl : xs.length ≤ 4294967296) (hc4 : xs.length ≤ c) (hcm : c ≤ maxLen) :
    Calls Try.prog 36 #[.slice a xs.length c] w fun e w' => ∃ al, e = .returned (.tuple #[.slice al (upL xs).length (upL xs).length, .int .i64 (upE xs)]) ∧ w'.ownsRow 0 36 1 (.slice al (upL xs).length (upL xs).length) (upL xs).length (wvs (upL xs)) ∧ (∀ k, (Value.slice al (upL xs).length (upL xs).length).ownBlock = some k → w.heap.size ≤ k) ∧ Keeps (fun _ => False) w w' := by
  by_cases h : xs.length % 4 = 0
  · have e1 : upL xs = unpackW xs (xs.length / 4) := if_pos h
    have e2 : upE xs = 0 := if_pos h
    rw [e2]
    refine (unpack_any a c (xs.length / 4) xs w hx (by omega) (by omega) (by omega) hcm).mono ?_
    rintro e w' ⟨rfl, hB, hK⟩
    rw [← e1] at hB
    have hl2 : (upL xs).length = xs.length / 4 := by rw [e1, unpackW_length]
    refine ⟨some ⟨w.heap.size, 0, none⟩, by rw [hl2], own_of_blkW hB (by rw [hl2]; unfold maxLen; omega), fun k hk => by cases hk; exact Nat.le_refl _, hK⟩
  · have e1 : upL xs = [] := if_neg h
    have e2 : upE xs = 12 := if_neg h
    rw [e1, e2]
    refine (unpack_short a c xs.length w (by omega) h).mono ?_
    rintro e w' ⟨rfl, rfl⟩
    exact ⟨none, rfl, World.ownsRow_nil _ _ _ _, (fun k hk => by cases hk), Keeps.refl _ _⟩
theorem refUnpack_both (a : Option Addr) (c : Nat) (xs : List UInt8) (w : World) (hx : Seg w a xs) (hl : xs.length ≤ 4294967296) (hc4 : xs.length ≤ c) (hcm : c ≤ maxLen) :
    Calls Try.prog 57 #[.slice a xs.length c] w fun e w' => ∃ al cl, e = .returned (.tuple #[.slice al (upL xs).length cl, .int .i64 (upE xs)]) ∧ w'.ownsRow 0 36 1 (.slice al (upL xs).length cl) (upL xs).length (wvs (upL xs)) ∧ (∀ k, (Value.slice al (upL xs).length cl).ownBlock = some k → w.heap.size ≤ k) ∧ Keeps (fun _ => False) w w' := by
  by_cases h : xs.length % 4 = 0
  · have e1 : upL xs = unpackW xs (xs.length / 4) := if_pos h
    have e2 : upE xs = 0 := if_pos h
    have hl2 : (upL xs).length = xs.length / 4 := by rw [e1, unpackW_length]
    rw [e2]
    refine (refUnpack_any a c (xs.length / 4) xs w hx (by omega) (by omega) (by omega) hcm).mono ?_
    rintro e w' ⟨v', rfl, hown, hG⟩
    rw [← e1, ← hl2] at hown
    obtain ⟨al, cl, rfl, -, -⟩ := own_slice hown
    exact ⟨al, cl, rfl, hown, hG.new.1, hG.new.2⟩
  · have e1 : upL xs = [] := if_neg h
    have e2 : upE xs = 12 := if_neg h
    rw [e1, e2]
    refine (refUnpack_short a c xs.length w (by omega) h).mono ?_
    rintro e w' ⟨rfl, rfl⟩
    exact ⟨none, 0, rfl, World.ownsRow_nil _ _ _ _, (fun k hk => by cases hk), Keeps.refl _ _⟩

set_option maxRecDepth 100000 in
set_option maxHeartbeats 4000000 in
theorem lists_6 (who a b : Int) (W V N : Nat) (pb : Option Addr) (xs : List UInt8) (cb : Nat) (pw : Option Addr) (lw cw : Nat) (str : ByteArray) (w0 w : World) (X T : Nat) (h : Game w0 w X T) (hx : Seg w0 pb xs) (hxl : xs.length ≤ 2147483647) (hcb : xs.length ≤ cb ∧ cb ≤ maxLen) (hT : T + xs.length ≤ 2147483700) :
    Calls Try.prog 13 #[.pointer (some ⟨X, 0, none⟩), .agg #[.int .i64 6, .int .i64 who, .int .i64 a, .int .i64 b, .int .u32 W, .int .u32 V, .int .u64 N, .slice pb xs.length cb, .slice pw lw cw, .string str]] w fun e w' => e = .returned (.bool true) ∧ Game w0 w' X (T + (8 + xs.length)) := by
  obtain ⟨m, n, s1, S1⟩ := h.stt #[.int .i64 6, .int .i64 who, .int .i64 a, .int .i64 b, .int .u32 W, .int .u32 V, .int .u64 N, .slice pb xs.length cb, .slice pw lw cw, .string str]
  have S1 := S1.more (T' := T + xs.length) (by omega)
  obtain ⟨bo, hbo⟩ : ∃ bo, bo = w.heap.size := ⟨_, rfl⟩
  obtain ⟨w1, hw1⟩ : ∃ w1, w1 = w.alloc (.cells #[.int .i64 6, .int .i64 who, .int .i64 a, .int .i64 b, .int .u32 W, .int .u32 V, .int .u64 N, .slice pb xs.length cb, .slice pw lw cw, .string str] 41) := ⟨_, rfl⟩
  rw [← hw1, ← hbo] at S1
  have HT : Hid (xs.length ≤ 2147483647 ∧ T + xs.length ≤ 2147483700 ∧ xs.length ≤ cb ∧ cb ≤ maxLen) := ⟨hxl, hT, hcb.1, hcb.2⟩
  have HX : Hid (Seg w0 pb xs) := hx
  have HS1 : Hid (Stt w0 X (T + xs.length) m n bo _ w1 s1) := S1
  clear S1 h hx hxl hT hcb
  obtain ⟨k, hk⟩ : ∃ k, k = (upL xs).length := ⟨_, rfl⟩
  obtain ⟨E, hE⟩ : ∃ E, E = upE xs := ⟨_, rfl⟩
  have HK : Hid (k = (upL xs).length ∧ E = upE xs ∧ k ≤ xs.length) := ⟨hk, hE, by have := upL_le xs; omega⟩
  clear hk hE
  go_enter Try.func13, Try.ntmps13
  go_wp2_with fail
  rw [← hbo, ← hw1]
  clear hbo hw1
  refine (lentBytes_any pb cb xs w1 (HS1.out.seg HX.out).1 (by have := HT.out.1; omega)).mono ?_
  rintro e w2 ⟨rfl, hB2, hK2⟩
  obtain ⟨G, hG⟩ : ∃ G, G = w1.heap.size := ⟨_, rfl⟩
  obtain ⟨s2, S2, k2⟩ : ∃ s2, Stt w0 X (T + xs.length) m n bo _ w2 s2 ∧ s2 (20, 0) = .blk G (bvs xs ++ List.replicate 9 m77) 5 := ⟨_, HS1.out.key (by omega) (by omega) (HS1.out.has.newBlk (20, 0) hB2 (Nat.le_refl _) hK2), by rw [hG]; exact upd_self _ _ _⟩
  rw [← hG] at hB2 ⊢
  have hp2 := unpack_both (some ⟨G, 0, none⟩) (xs.length + 9) xs w2 (seg_pre hB2) (by have := HT.out.1; omega) (by omega) (by unfold maxLen; have := HT.out.1; omega)
  rw [← HK.out.1, ← HK.out.2.1] at hp2
  have HP2 : Hid (Calls _ _ _ _ _) := hp2
  have HS2 : Hid (Stt w0 X (T + xs.length) m n bo _ w2 s2 ∧ s2 (20, 0) = _) := ⟨S2, k2⟩
  clear S2 k2 hG hB2 hK2 hp2
  go_wp2_with fail
  refine HP2.out.mono ?_
  rintro e w3 ⟨g3, rfl, hO3, hn3, hK3⟩
  obtain ⟨s3, S3, k3, l3⟩ : ∃ s3, Stt w0 X (T + xs.length) m n bo _ w3 s3 ∧ s3 (20, 0) = .blk G (bvs xs ++ List.replicate 9 m77) 5 ∧ s3 (14, n) = .row 36 1 (.slice g3 k k) k (wvs (upL xs)) :=
    ⟨_, HS2.out.1.toldW (HS2.out.1.has.newRow (14, n) hO3 hn3 hK3), (upd_ne _ _ _ _ (by simp)).trans HS2.out.2, upd_self _ _ _⟩
  have o7 := (S3.has.blk S3.box).1.cell (i := 7) rfl
  have HS3 : Hid (Stt w0 X (T + xs.length) m n bo _ w3 s3 ∧ s3 (20, 0) = _ ∧ s3 (14, n) = _) := ⟨S3, k3, l3⟩
  have hp3 := refUnpack_both pb cb xs w3 (S3.seg HX.out).1 (by have := HT.out.1; omega) HT.out.2.2.1 HT.out.2.2.2
  rw [← HK.out.1, ← HK.out.2.1] at hp3
  have HP3 : Hid (Calls _ _ _ _ _) := hp3
  clear S3 k3 l3 hO3 hn3 hK3 HP2 hp3
  go_wp2_with fail
  refine HP3.out.mono ?_
  rintro e w4 ⟨a4, c4, rfl, hO4, hn4, hK4⟩
  obtain ⟨s4, S4, k4, l4, r4⟩ : ∃ s4, Stt w0 X (T + xs.length) m n bo _ w4 s4 ∧ s4 (20, 0) = .blk G (bvs xs ++ List.replicate 9 m77) 5 ∧ s4 (14, n) = .row 36 1 (.slice g3 k k) k (wvs (upL xs)) ∧ s4 (22, 0) = .row 36 1 (.slice a4 k c4) k (wvs (upL xs)) :=
    ⟨_, HS3.out.1.key (by omega) (by omega) (HS3.out.1.has.newRow (22, 0) hO4 hn4 hK4), (upd_ne _ _ _ _ (by simp)).trans HS3.out.2.1, (upd_ne _ _ _ _ (by simp)).trans HS3.out.2.2, upd_self _ _ _⟩
  have HS4 : Hid (Stt w0 X (T + xs.length) m n bo _ w4 s4 ∧ s4 (20, 0) = _ ∧ s4 (14, n) = _ ∧ s4 (22, 0) = _) := ⟨S4, k4, l4, r4⟩
  clear S4 k4 l4 r4 hO4 hn4 hK4 HP3 o7
  go_wp2_with fail
  refine (HS4.out.1.keepW HK.out.1.symm HS4.out.2.2.1 HS4.out.2.2.2 (by have := HK.out.2.2; omega) (by have := HT.out; omega)).mono ?_
  rintro e w5 ⟨rfl, s5, S5, e5⟩
  have o7 := (S5.has.blk S5.box).1.cell (i := 7) rfl
  have HS5 : Hid (Stt w0 X (T + xs.length + 1) m (n + 1) bo _ w5 s5 ∧ s5 (20, 0) = _) := ⟨S5, (e5 20 0 (by omega)).trans HS4.out.2.1⟩
  clear S5 e5
  go_wp2_with fail
  obtain ⟨hB5, next5⟩ := HS5.out.1.has.blk HS5.out.2
  obtain ⟨hsg, hne⟩ := HS5.out.1.seg HX.out
  refine (backBytes_any G cb pb xs w5 hsg hB5 (hne _ _ _ HS5.out.2) (by have := HT.out.1; omega)).mono ?_
  rintro e w6 ⟨rfl, hB6, hK6⟩
  obtain ⟨s6, S6⟩ : ∃ s6, Stt w0 X (T + xs.length + 1) m (n + 1) bo _ w6 s6 := ⟨_, HS5.out.1.key (by omega) (by omega) (next5 _ _ _ hB6 hK6)⟩
  obtain ⟨us, hus⟩ : ∃ us : List UInt8, us = List.replicate xs.length 78 := ⟨_, rfl⟩
  have hul : us.length = xs.length := by rw [hus, List.length_replicate]
  have hsu : Seg w6 (some ⟨G, 0, none⟩) us := by rw [hus]; exact seg_rep hB6
  obtain ⟨k', hk'⟩ : ∃ k', k' = (upL us).length := ⟨_, rfl⟩
  obtain ⟨E', hE'⟩ : ∃ E', E' = upE us := ⟨_, rfl⟩
  have hp6 := unpack_both (some ⟨G, 0, none⟩) (xs.length + 9) us w6 hsu (by rw [hul]; have := HT.out.1; omega) (by omega) (by unfold maxLen; have := HT.out.1; omega)
  rw [hul, ← hk', ← hE'] at hp6
  have HP6 : Hid (Calls _ _ _ _ _) := hp6
  have HS6 : Hid (Stt w0 X (T + xs.length + 1) m (n + 1) bo _ w6 s6 ∧ us.length = xs.length ∧ Seg w6 (some ⟨G, 0, none⟩) us ∧ k' = (upL us).length ∧ E' = upE us ∧ k' ≤ xs.length) := ⟨S6, hul, hsu, hk', hE', by have := upL_le us; omega⟩
  clear S6 hus hul hsu hB5 hB6 hK6 next5 hsg hne o7 hp6 hk' hE'
  go_wp2_with fail
  refine HP6.out.mono ?_
  rintro e w7 ⟨g7, rfl, hO7, hn7, hK7⟩
  obtain ⟨s7, S7, l7⟩ : ∃ s7, Stt w0 X (T + xs.length + 1) m (n + 1) bo _ w7 s7 ∧ s7 (14, n + 1) = .row 36 1 (.slice g7 k' k') k' (wvs (upL us)) :=
    ⟨_, HS6.out.1.toldW (HS6.out.1.has.newRow (14, n + 1) hO7 hn7 hK7), upd_self _ _ _⟩
  have hp7 := refUnpack_both (some ⟨G, 0, none⟩) (xs.length + 9) us w7 (HS6.out.2.2.1.kept hK7 (fun _ _ e => e)) (by rw [HS6.out.2.1]; have := HT.out.1; omega) (by rw [HS6.out.2.1]; omega) (by unfold maxLen; have := HT.out.1; omega)
  rw [HS6.out.2.1, ← HS6.out.2.2.2.1, ← HS6.out.2.2.2.2.1] at hp7
  have HP7 : Hid (Calls _ _ _ _ _) := hp7
  have HS7 : Hid (Stt w0 X (T + xs.length + 1) m (n + 1) bo _ w7 s7 ∧ s7 (14, n + 1) = _) := ⟨S7, l7⟩
  clear S7 l7 hO7 hn7 hK7 HP6 hp7
  go_wp2_with fail
  refine HP7.out.mono ?_
  rintro e w8 ⟨a8, c8, rfl, hO8, hn8, hK8⟩
  obtain ⟨s8, S8, l8, r8⟩ : ∃ s8, Stt w0 X (T + xs.length + 1) m (n + 1) bo _ w8 s8 ∧ s8 (14, n + 1) = .row 36 1 (.slice g7 k' k') k' (wvs (upL us)) ∧ s8 (22, 0) = .row 36 1 (.slice a8 k' c8) k' (wvs (upL us)) :=
    ⟨_, HS7.out.1.key (by omega) (by omega) (HS7.out.1.has.newRow (22, 0) hO8 hn8 hK8), (upd_ne _ _ _ _ (by simp)).trans HS7.out.2, upd_self _ _ _⟩
  have HS8 : Hid (Stt w0 X (T + xs.length + 1) m (n + 1) bo _ w8 s8 ∧ s8 (14, n + 1) = _ ∧ s8 (22, 0) = _) := ⟨S8, l8, r8⟩
  clear S8 l8 r8 hO8 hn8 hK8 HP7
  go_wp2_with fail
  refine (HS8.out.1.keepW HS6.out.2.2.2.1.symm HS8.out.2.1 HS8.out.2.2 (by have := HS6.out.2.2.2.2.2; omega) (by have := HT.out; omega)).mono ?_
  rintro e w9 ⟨rfl, s9, S9, e9⟩
  have HF : Hid (Game w0 w9 X (T + (8 + xs.length))) := (S9.more (T' := T + (8 + xs.length)) (by omega)).game
  clear S9 e9
  go_wp2
  go_ret
  exact ⟨rfl, HF.out⟩
end Go.Proofs.Ytonjmknjjdnjkaa
