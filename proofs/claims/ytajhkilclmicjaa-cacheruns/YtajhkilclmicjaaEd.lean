import Derived.Test.YtajhkilclmicjaaEc
namespace Go.Proofs.Ytajhkilclmicjaa
open Go.RowKit Go.Shelf
set_option linter.unusedVariables false
set_option linter.unusedSimpArgs false
set_option maxRecDepth 6000

theorem append_row2 {w : World} (a : Option Addr) (m c : Nat) (v : Value) (n : Nat) (vs : List Value) (hown : w.ownsRow 0 59 1 v n vs) (hn : n ≤ 4294967296) :
    ∃ v' W', (∀ ty, (Builtin.append_ #[27, 27] ty #[v, .slice (some ⟨w.heap.size, 0, none⟩) 1 1]).run Try.prog (w.alloc (.cells #[.slice a m c] 59)) = .ok v' W') ∧ W'.ownsRow 0 59 1 v' (n + 1) (vs ++ [.slice a m c]) ∧ Grew w v W' v' := by
  obtain ⟨i0, hi, hz0, hz1, hz2⟩ := info_parts Try.info59
  obtain ⟨v', W', h1, h2, h3, h4⟩ := append_new 27 59 i0 (.slice none 0 0) 1 24 Try.underlying27 hi hz0 hz1 hz2 rfl (by omega) v n vs hown #[.slice a m c] rfl (by
    intro y hy
    simp at hy
    rw [hy]; rfl) (by unfold maxLen; omega) (by omega)
  exact ⟨v', W', h1, h2, h3, h4⟩

/-- What copied leaves. -/
def CopP (w w' : World) (lls : List (List Int)) (e : Ending) : Prop := ∃ v rows, e = .returned v ∧ CR w w' v rows (nth lls) lls.length

set_option maxRecDepth 20000 in
set_option maxHeartbeats 4000000 in
theorem copied_all (a0 : Option Addr) (lls : List (List Int)) (cap : Nat) (w : World) (h : SegL w a0 lls) (hm : lls.length ≤ 2147483647) (ht : tot lls lls.length ≤ 2147483647) :
    Calls Try.prog 20 #[.slice a0 lls.length cap] w fun e w' => CopP w w' lls e := by
  obtain ⟨N, eN⟩ : ∃ N, N = lls.length := ⟨_, rfl⟩
  have HS : Hid (SegL w a0 lls ∧ N = lls.length ∧ ∀ (j : Nat) (l : List Int), lls[j]? = some l → l.length ≤ 2147483647) := ⟨h, eN, fun j l hl => Nat.le_trans (tot_one hl) ht⟩
  have H0 : Hid (CR w w (.slice none 0 0) (fun _ => undef) (nth lls) 0) := ⟨by simpa using World.ownsRow_nil w 0 59 1, fun g hg => by simp [Value.ownBlock] at hg, fun i hi => by omega, Keeps.refl _ _⟩
  rw [← eN] at hm ⊢
  have hNz : (N : Int) ≤ 2147483647 := by omega
  clear h ht eN hm
  go_enter Try.func20, Try.ntmps20
  go_wp2
  go_loopw [3, 9] (fun v i wr => ∃ (j : Nat) (rows : Nat → Value), j ≤ N ∧ i = .int .i64 j ∧ CR w wr v rows (nth lls) j) (fun _ i _ => N - (intOf i).toNat)
  case atStart => exact ⟨0, _, by omega, rfl, H0.out⟩
  case round =>
    obtain ⟨j, rows, hj, rfl, hC⟩ := hrel
    clear H0
    by_cases hlt : j < N
    · have hjl : lls[j]? = some (nth lls j) := nth_some (by have := HS.out.2.1; omega)
      rcases HS.out.1.kept hC.keeps with h0 | ⟨G, O, rfl, hc⟩
      · rw [h0] at hjl; simp at hjl
      obtain ⟨a, c, cu, hs, _, _⟩ := hc j _ hjl
      have hlb := HS.out.2.2 j _ hjl
      obtain ⟨n, hn⟩ : ∃ n, n = (nth lls j).length := ⟨_, rfl⟩
      rw [← hn] at cu hlb
      have hnz : (n : Int) ≤ 2147483647 := by omega
      have hjz : (j : Int) < N := by omega
      obtain ⟨va, vc, rfl⟩ := owns_form hC.own
      have HJ : Hid (CR w wr (.slice va j vc) rows (nth lls) j ∧ j < N ∧ n = (nth lls j).length ∧ SegI wr a (nth lls j) ∧ wr.cell? ⟨G, O + j, none⟩ = some (.slice a n c)) := ⟨hC, hlt, hn, hs, cu⟩
      obtain ⟨wo, hwo⟩ : ∃ wo, wo = wr := ⟨_, rfl⟩
      subst hwo
      clear hC hs hn hlt hj hc hjl hlb
      go_wp2
      clear cu
      go_loopw [5, 17] (fun kv i wq => ∃ (m : Nat), m ≤ n ∧ i = .int .i64 m ∧ wq.ownsRow 0 3 1 kv m (flat ((nth lls j).take m)) ∧ Grew wo (.slice none 0 0) wq kv) (fun _ i _ => n - (intOf i).toNat)
      case atStart => exact ⟨0, by omega, rfl, by simpa [flat] using World.ownsRow_nil wo 0 3 1, Grew.refl _ _⟩
      case round =>
        obtain ⟨m, hm, rfl, hO, hG⟩ := hrel
        obtain ⟨b1, b2, b3, b4, b5⟩ := HJ.out
        have hKq : Keeps (fun _ => False) wo wr := hG.owns rfl
        by_cases hmn : m < n
        · have hmu : m < (nth lls j).length := by omega
          have cu := cell_kept b5 hKq fun h => h
          rcases b4.kept hKq fun _ _ h => h with h0 | ⟨b, o, rfl, hcell⟩
          · exact absurd hmu (by rw [h0]; simp)
          · have cx := hcell m hmu
            obtain ⟨x, hxx⟩ : ∃ x, x = (nth lls j)[m]'hmu := ⟨_, rfl⟩
            rw [← hxx] at cx
            obtain ⟨ka, kc, rfl⟩ := owns_form hO
            obtain ⟨v', W', happ, hown', hgr⟩ := append_int x (.slice ka m kc) _ _ hO (by omega)
            have HAP : Hid (∀ ty, (Builtin.append_ #[59, 59] ty #[.slice ka m kc, .slice (some ⟨wr.heap.size, 0, none⟩) 1 1]).run Try.prog (wr.alloc (.cells #[.int .i64 x] 3)) = .ok v' W') := happ
            have HR : Hid (W'.ownsRow 0 3 1 v' (m + 1) (flat ((nth lls j).take (m + 1))) ∧ Grew wo (.slice none 0 0) W' v' ∧ m < n) := by
              refine ⟨?_, hG.trans hgr, hmn⟩
              rw [List.take_add_one, List.getElem?_eq_getElem hmu, ← hxx, flat_append]
              exact hown'
            have hmz : (m : Int) < n := by omega
            clear happ hown' hgr hO hG hm hmn hmu hcell hxx b1 b2 b3 b5 hKq
            go_wp2_with (at_builtin; go_must (refine wpList_append_run rfl (.tmp 20) (.tmp 28) 59 59 rfl (.slice ka m kc) (.slice (some ⟨wr.heap.size, 0, none⟩) 1 1) v' W' rfl rfl HAP.out ?_; refine Hid.out ?_))
            unfold Hid
            clear cu cx
            go_wp2
            go_roundw
            case rel => exact ⟨m + 1, by have := HR.out.2.2; omega, by go_num, HR.out.1, HR.out.2.1⟩
            case measure => have := HR.out.2.2; simp [intOf]; omega
        · obtain rfl : m = n := by omega
          have hO' : wr.ownsRow 0 3 1 u5 m (flat (nth lls j)) := by
            rw [List.take_of_length_le (by omega)] at hO
            exact hO
          obtain ⟨ka, kc, rfl, hks, hkb, hkc⟩ := owns_seg hO'
          obtain ⟨v', W', happ, hown', hgr⟩ := append_row2 ka (nth lls j).length kc (.slice va j vc) j _ (owns_kept b1.own hKq fun _ _ h => h) (by omega)
          have hC' := b1.more hKq hks hkc (fun x hx => ⟨?_, owns_lt hO' (hkb x hx)⟩) hown' hgr
          · have HR : Hid (CR w W' v' (fun i => if i = j then .slice ka (nth lls j).length kc else rows i) (nth lls) (j + 1) ∧ j < N) := ⟨hC', b2⟩
            rw [← b3] at happ ⊢
            have HAP : Hid (∀ ty, (Builtin.append_ #[27, 27] ty #[.slice va j vc, .slice (some ⟨wr.heap.size, 0, none⟩) 1 1]).run Try.prog (wr.alloc (.cells #[.slice ka m kc] 59)) = .ok v' W') := happ
            clear happ hown' hgr hC' hO hO' hG hm hmn hks hkb hkc b1 b2 b3 b4 b5 hKq
            go_wp2_with (at_builtin; go_must (refine wpList_append_run rfl (.tmp 31) (.tmp 33) 27 27 rfl (.slice va j vc) (.slice (some ⟨wr.heap.size, 0, none⟩) 1 1) v' W' rfl rfl HAP.out ?_; refine Hid.out ?_))
            unfold Hid
            go_wp2
            go_roundw
            case rel => exact ⟨j + 1, _, by have := HR.out.2; omega, by go_num, HR.out.1⟩
            case measure => have := HR.out.2; simp [intOf]; omega
          · rcases hG.fresh with e | ⟨k, e, hk⟩
            · have h1 := hkb x hx
              rw [e] at h1
              simp [Value.ownBlock] at h1
            · have h1 := hkb x hx
              rw [e] at h1
              cases h1
              exact hk
    · obtain rfl : j = N := by omega
      have HR : Hid (CR w wr u3 rows (nth lls) lls.length) := by rw [← HS.out.2.1]; exact hC
      clear hC hj hlt
      go_wp2
      go_ret
      exact ⟨u3, rows, rfl, HR.out⟩

/-- Lists that can be read, in blocks from B on. -/
def SegB (w : World) (a : Option Addr) (lls : List (List Int)) (B : Nat) : Prop :=
  lls = [] ∨ ∃ g o, a = some ⟨g, o, none⟩ ∧ B ≤ g ∧ ∀ (j : Nat) (l : List Int), lls[j]? = some l → ∃ x c, w.cell? ⟨g, o + j, none⟩ = some (.slice x l.length c) ∧ SegI w x l ∧ l.length ≤ c ∧ (l.length : Int) ≤ 9223372036854775807 ∧ ∀ y, x = some y → B ≤ y.block
theorem SegB.segL {w : World} {a : Option Addr} {lls : List (List Int)} {B : Nat} (h : SegB w a lls B) : SegL w a lls := by
  rcases h with h | ⟨g, o, e, hb, hc⟩
  · exact .inl h
  · refine .inr ⟨g, o, e, fun j l hl => ?_⟩
    obtain ⟨x, c, h1, h2, h3, h4, h5⟩ := hc j l hl
    exact ⟨x, c, h1, h2, h3, h4⟩
theorem SegB.kept {S : Nat → Prop} {w w' : World} {a : Option Addr} {lls : List (List Int)} {B : Nat} (h : SegB w a lls B) (hK : Keeps S w w') (hS : ∀ k, S k → k < B) : SegB w' a lls B := by
  rcases h with h | ⟨g, o, e, hb, hc⟩
  · exact .inl h
  · refine .inr ⟨g, o, e, hb, fun j l hl => ?_⟩
    obtain ⟨x, c, h1, h2, h3, h4, h5⟩ := hc j l hl
    refine ⟨x, c, cell_kept h1 hK (fun (hs : S g) => by have := hS g hs; omega), h2.kept hK fun y hy hs => by have := hS _ hs; have := h5 y hy; omega, h3, h4, h5⟩
theorem CR.segB {w W : World} {v : Value} {rows : Nat → Value} {lls : List (List Int)} (h : CR w W v rows (nth lls) lls.length) (ht : tot lls lls.length ≤ 2147483647) : ∃ a cap, v = .slice a lls.length cap ∧ SegB W a lls w.heap.size := by
  have hh := h.own
  rcases hh.2 with ⟨e, h0⟩ | ⟨G, cap, cur, rfl, h5, h6, h7⟩
  · exact ⟨none, 0, by rw [e, h0], .inl (List.eq_nil_of_length_eq_zero h0)⟩
  · refine ⟨some ⟨G, 0, none⟩, cap, rfl, .inr ⟨G, 0, rfl, h.fresh G rfl, fun j l hl => ?_⟩⟩
    have hj := (List.getElem?_eq_some_iff.1 hl).1
    have hn := nth_some hj
    rw [hl] at hn
    cases hn
    obtain ⟨a, c, g1, g2, g3, g4⟩ := h.row j hj
    have hcell := hh.cells (g := G) rfl j (rows j) (by simp [hj])
    rw [addr_add, g1] at hcell
    have := tot_one hl
    exact ⟨a, c, hcell, g2, g3, by omega, fun y hy => (g4 y hy).1⟩

theorem Four.segL {w : World} {G : Nat} {vs : Nat → Value} {ls : Nat → List Int} {D : Nat → Prop} (h : Lst w G vs ls) (hf : ∀ i, i < 4 → (ls i).length ≤ 2) : SegL w (some ⟨G, 0, none⟩) [ls 0, ls 1, ls 2, ls 3] := by
  refine .inr ⟨G, 0, rfl, fun j l hl => ?_⟩
  have hj : j < 4 := (List.getElem?_eq_some_iff.1 hl).1
  have e : l = ls j := by
    have : j = 0 ∨ j = 1 ∨ j = 2 ∨ j = 3 := by omega
    rcases this with rfl | rfl | rfl | rfl <;> simpa using hl.symm
  subst e
  obtain ⟨a, c, h1, h2, h3⟩ := h.seg j hj
  refine ⟨a, c, by rw [Nat.zero_add, h.cell j hj, h1], h2, h3, by have := hf j hj; omega⟩

end Go.Proofs.Ytajhkilclmicjaa
