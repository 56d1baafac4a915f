import Derived.Test.YtpccdhoaicabcaaR
import Derived.Test.YtpccdhoaicabcaaH
import Derived.Test.YtpccdhoaicabcaaApp
namespace Go.Proofs.Ytpccdhoaicabcaa
open Go.RowKit
set_option linter.unusedVariables false

def lvs (ls : List Lf) : List Value := ls.flatMap Lf.vs
theorem lvs_append (a b : List Lf) : lvs (a ++ b) = lvs a ++ lvs b := by simp [lvs]
theorem lvs_length (ls : List Lf) : (lvs ls).length = ls.length * 3 := by
  induction ls with
  | nil => rfl
  | cons l ls ih => simp only [lvs, List.flatMap_cons, List.length_append] at *; rw [ih]; simp [Lf.vs]; omega
theorem lvs_get (ls : List Lf) (i : Nat) (l : Lf) (h : ls[i]? = some l) : (lvs ls)[i * 3]? = some (.int .i64 l.page) ∧ (lvs ls)[i * 3 + 1]? = some (.int .i64 l.frame) ∧ (lvs ls)[i * 3 + 2]? = some (.int .i64 l.rights) := by
  induction ls generalizing i with
  | nil => simp at h
  | cons q P ih =>
    cases i with
    | zero => simp at h; subst h; exact ⟨rfl, rfl, rfl⟩
    | succ i =>
      have := ih i (by simpa using h)
      simp only [lvs, List.flatMap_cons] at *
      have hl : q.vs.length = 3 := rfl
      rw [List.getElem?_append_right (by omega), List.getElem?_append_right (by omega), List.getElem?_append_right (by omega), hl, show (i + 1) * 3 - 3 = i * 3 by omega, show (i + 1) * 3 + 1 - 3 = i * 3 + 1 by omega, show (i + 1) * 3 + 2 - 3 = i * 3 + 2 by omega]
      exact this

/-- A row of leaves of one's own. -/
structure OwnL (w wr : World) (v : Value) (ls : List Lf) : Prop where
  own : wr.ownsRow 0 51 3 v ls.length (lvs ls)
  new : ∀ k, v.ownBlock = some k → w.heap.size ≤ k
  k : Keeps (fun _ => False) w wr

theorem Try.info51 : (Try.prog.info? 51).map (fun i => (i.zero, i.size, i.bytes)) = some (some (.agg #[.int .i64 0, .int .i64 0, .int .i64 0]), 3, 24) := by kernel_rfl

theorem append_leaf {w : World} (l : Lf) (v : Value) (n : Nat) (vs : List Value) (hown : w.ownsRow 0 51 3 v n vs) (hn : n ≤ 4294967296) :
    ∃ v' W', (∀ ty, (Builtin.append_ #[105, 105] ty #[v, .slice (some ⟨w.heap.size, 0, none⟩) 1 1]).run Try.prog (w.alloc (.cells #[.int .i64 l.page, .int .i64 l.frame, .int .i64 l.rights] 51)) = .ok v' W') ∧ W'.ownsRow 0 51 3 v' (n + 1) (vs ++ l.vs) ∧ Grew w v W' v' := by
  obtain ⟨i0, hi, hz0, hz1, hz2⟩ := info_parts Try.info51
  obtain ⟨v', W', h1, h2, h3, h4⟩ := append_new 105 51 i0 (.agg #[.int .i64 0, .int .i64 0, .int .i64 0]) 3 24 Try.underlying105 hi hz0 hz1 hz2 rfl (by omega) v n vs hown #[.int .i64 l.page, .int .i64 l.frame, .int .i64 l.rights] rfl (by
    intro y hy
    simp at hy
    rcases hy with rfl | rfl | rfl <;> rfl) (by unfold maxLen; omega) (by omega)
  exact ⟨v', W', h1, h2, h3, h4⟩

theorem OwnL.nil (w : World) : OwnL w w (.slice none 0 0) [] := ⟨World.ownsRow_nil _ _ _ _, (fun k hk => by cases hk), Keeps.refl _ _⟩
theorem OwnL.quiet {w wr w' : World} {v : Value} {ls : List Lf} (h : OwnL w wr v ls) (hK : Keeps (fun _ => False) wr w') : OwnL w w' v ls := ⟨owns_kept h.own hK (fun _ _ e => e), h.new, h.k.trans hK fun _ _ e => e⟩
theorem OwnL.form {w wr : World} {v : Value} {ls : List Lf} (h : OwnL w wr v ls) : ∃ a c, v = .slice a ls.length c := by
  rcases h.own.2 with ⟨rfl, h1⟩ | ⟨g, cap, cur, rfl, _⟩
  · exact ⟨none, 0, by rw [h1]⟩
  · exact ⟨_, _, rfl⟩
theorem OwnL.step {w wr : World} {v : Value} {ls : List Lf} (h : OwnL w wr v ls) (hl : ls.length ≤ 4294967296) (x : Lf) :
    ∃ v' W', (∀ ty, (Builtin.append_ #[105, 105] ty #[v, .slice (some ⟨wr.heap.size, 0, none⟩) 1 1]).run Try.prog (wr.alloc (.cells #[.int .i64 x.page, .int .i64 x.frame, .int .i64 x.rights] 51)) = .ok v' W') ∧ OwnL w W' v' (ls ++ [x]) ∧ Keeps (fun k => some k = v.ownBlock) wr W' := by
  obtain ⟨v', W', hr, hown, hG⟩ := append_leaf x v ls.length _ h.own hl
  refine ⟨v', W', hr, ⟨?_, ?_, ?_⟩, hG.keeps⟩
  · rw [List.length_append, lvs_append]; simpa [lvs] using hown
  · intro k hk
    rcases hG.fresh with e | ⟨q, e, hq⟩
    · exact h.new k (by rw [← e]; exact hk)
    · rw [e] at hk; cases hk; have := h.k.size; omega
  · exact h.k.trans hG.keeps fun b hb e => by have := h.new b e.symm; omega

/-- The leaves of the first s pages. -/
def lvL (n : Nat) (xs : List UInt32) (root : Int) (s : Nat) : List Lf := (List.range s).filterMap fun (p : Nat) => if walkE n xs root (p : Int) = 0 then some (walkL n xs root (p : Int)) else none
theorem lvL_zero (n : Nat) (xs : List UInt32) (root : Int) : lvL n xs root 0 = [] := rfl
theorem lvL_yes {n : Nat} {xs : List UInt32} {root : Int} {s : Nat} (h : walkE n xs root (s : Int) = 0) : lvL n xs root (s + 1) = lvL n xs root s ++ [walkL n xs root (s : Int)] := by
  unfold lvL
  rw [List.range_succ, List.filterMap_append]
  simp [h]
theorem lvL_no {n : Nat} {xs : List UInt32} {root : Int} {s : Nat} (h : walkE n xs root (s : Int) ≠ 0) : lvL n xs root (s + 1) = lvL n xs root s := by
  unfold lvL
  rw [List.range_succ, List.filterMap_append]
  simp [h]
theorem lvL_len (n : Nat) (xs : List UInt32) (root : Int) (s : Nat) : (lvL n xs root s).length ≤ s := by
  have := List.length_filterMap_le (fun p : Nat => if walkE n xs root (p : Int) = 0 then some (walkL n xs root (p : Int)) else none) (List.range s)
  simpa [lvL] using this

set_option maxRecDepth 20000 in
set_option maxHeartbeats 4000000 in
/-- The document's Leaves. -/
theorem rleaves_any (b g n : Nat) (xs : List UInt32) (root : Int) (w : World) (h : Rn w b g n xs) (hr1 : -9223372036854775808 ≤ root) (hr2 : root ≤ 9223372036854775807) :
    Calls Try.prog 52 #[.pointer (some ⟨b, 0, none⟩), .int .i64 root] w fun e w' => ∃ a c, e = .returned (.slice a (lvL n xs root 256).length c) ∧ OwnL w w' (.slice a (lvL n xs root 256).length c) (lvL n xs root 256) := by
  have HR : Hid (∀ w', Keeps (fun _ => False) w w' → ∀ p : Int, Calls Try.prog 25 #[.pointer (some ⟨b, 0, none⟩), .int .i64 root, .int .i64 p] w' fun e w2 => e = .returned (.tuple #[(walkL n xs root p).v, .int .i64 (walkE n xs root p : Nat)]) ∧ Keeps (fun _ => False) w' w2) :=
    fun w' hK p => rwalk_any b g n xs root p w' (h.grown hK) hr1 hr2
  clear h hr1 hr2
  go_enter Try.func52, Try.ntmps52
  go_wp2_with fail
  go_loopw [5, 6] (fun v i wr => ∃ s : Nat, s ≤ 256 ∧ i = .int .i64 (s : Int) ∧ OwnL w wr v (lvL n xs root s)) (fun _ i _ => 256 - (intOf i).toNat)
  case atStart => exact ⟨0, by omega, rfl, by rw [lvL_zero]; exact OwnL.nil w⟩
  case round =>
    obtain ⟨s, hs, rfl, hO⟩ := hrel
    obtain ⟨a, c, rfl⟩ := hO.form
    have HO : Hid (OwnL w wr _ (lvL n xs root s)) := hO
    by_cases hlt : s < 256
    · have hlt' : (s : Int) < 256 := by omega
      have HC : Hid (Calls _ _ _ _ _) := HR.out wr hO.k (s : Int)
      obtain ⟨X, hX⟩ : ∃ X, X = walkL n xs root (s : Int) := ⟨_, rfl⟩
      obtain ⟨E, hE⟩ : ∃ E, E = walkE n xs root (s : Int) := ⟨_, rfl⟩
      obtain ⟨M, hM⟩ : ∃ M, M = (lvL n xs root s).length := ⟨_, rfl⟩
      rw [← hX, ← hE] at HC
      rw [← hM] at HO ⊢
      have HE : Hid (E = walkE n xs root (s : Int) ∧ X = walkL n xs root (s : Int) ∧ M = (lvL n xs root s).length) := ⟨hE, hX, hM⟩
      clear hX hE hM hO
      unfold Lf.v at HC
      go_wp2_with fail
      refine HC.out.mono ?_
      rintro e w2 ⟨rfl, hK⟩
      obtain ⟨A, hA⟩ : ∃ A, A = w2.heap.size := ⟨_, rfl⟩
      obtain ⟨w3, hw3⟩ : ∃ w3, w3 = w2.alloc (.cells #[.int .i64 X.page, .int .i64 X.frame, .int .i64 X.rights] 51) := ⟨_, rfl⟩
      have hB : Blk w3 A [.int .i64 X.page, .int .i64 X.frame, .int .i64 X.rights] 51 := by rw [hw3, hA]; exact Blk.new w2 _ 51
      have hK3 : Keeps (fun _ => False) wr w3 := by rw [hw3]; exact hK.alloc _
      have hO3 := HO.out.quiet hK3
      have HA : Hid (A = w2.heap.size) := hA
      have HW3 : Hid (_ = _) := hw3
      by_cases hU : E = 0
      · subst hU
        obtain ⟨v', W', hr, hO', -⟩ := hO3.step (by have := lvL_len n xs root s; omega) X
        obtain ⟨a', c', hf⟩ := hO'.form
        subst hf
        have HO' : Hid (OwnL w W' (.slice a' (M + 1) c') (lvL n xs root (s + 1))) := by
          rw [lvL_yes HE.out.1.symm, ← HE.out.2.1, HE.out.2.2]
          rw [List.length_append, List.length_singleton] at hO'
          exact hO'
        rw [List.length_append, List.length_singleton, ← HE.out.2.2] at hr
        rw [hw3, World.size_alloc] at hr
        have HAP : Hid (∀ ty, _) := hr
        have x0 := hB.cell (i := 0) rfl
        have x1 := hB.cell (i := 1) rfl
        have x2 := hB.cell (i := 2) rfl
        clear hO3 hO' hr hK hK3 hA hw3 HC hB
        go_wp2_with (at_builtin; go_must (refine wpList_append_run rfl (.tmp 22) (.tmp 24) 105 105 rfl (.slice a M c) (.slice (some ⟨w2.heap.size + 1, 0, none⟩) 1 1) (.slice a' (M + 1) c') W' rfl rfl HAP.out ?_))
        go_roundw
        case rel => exact ⟨s + 1, by omega, by go_num, HO'.out⟩
        case measure => simp [intOf]; omega
      · have hU' : ((E : Int) == 0) = false := by simp; omega
        have HO' : Hid (OwnL w w3 (.slice a M c) (lvL n xs root (s + 1))) := by rw [lvL_no (by rw [← HE.out.1]; exact hU)]; exact hO3
        clear hO3 hK hK3 hA hw3 HC hB
        go_wp2
        go_roundw
        case rel => exact ⟨s + 1, by omega, by go_num, by rw [← HW3.out]; exact HO'.out⟩
        case measure => simp [intOf]; omega
    · obtain rfl : s = 256 := by omega
      clear hO
      go_wp2
      go_ret
      exact ⟨a, c, rfl, HO.out⟩

open Go.RowKit
set_option linter.unusedVariables false

theorem cellK {S : Nat → Prop} {w w' : World} {b i : Nat} {v : Value} (h : w.cell? ⟨b, i, none⟩ = some v) (hK : Keeps S w w') (hn : ¬ S b) : w'.cell? ⟨b, i, none⟩ = some v := by
  rw [World.cell?_of_block (w := w) (hK.block b (World.block_lt_of_cell? w ⟨b, i, none⟩ h) hn)]; exact h

def LfAt (w : World) (g o : Nat) (l : Lf) : Prop := w.cell? ⟨g, o, none⟩ = some (.int .i64 l.page) ∧ w.cell? ⟨g, o + 1, none⟩ = some (.int .i64 l.frame) ∧ w.cell? ⟨g, o + 2, none⟩ = some (.int .i64 l.rights)
def SegL (w : World) (a : Option Addr) (ls : List Lf) : Prop := ls = [] ∨ ∃ g, a = some ⟨g, 0, none⟩ ∧ ∀ (j : Nat) (l : Lf), ls[j]? = some l → LfAt w g (j * 3) l
theorem SegL.quiet {w w' : World} {a : Option Addr} {ls : List Lf} (h : SegL w a ls) (hK : Keeps (fun _ => False) w w') : SegL w' a ls := by
  rcases h with h | ⟨g, h1, h2⟩
  · exact .inl h
  · refine .inr ⟨g, h1, fun j l hj => ?_⟩
    obtain ⟨c0, c1, c2⟩ := h2 j l hj
    exact ⟨cellK c0 hK (fun e => e), cellK c1 hK (fun e => e), cellK c2 hK (fun e => e)⟩
theorem SegL.take {w : World} {a : Option Addr} {ls : List Lf} (h : SegL w a ls) (n : Nat) : SegL w a (ls.take n) := by
  rcases h with rfl | ⟨g, h1, h2⟩
  · left; simp
  · right
    refine ⟨g, h1, fun j l hj => h2 j l ?_⟩
    rw [List.getElem?_take] at hj
    split at hj
    · exact hj
    · cases hj
theorem OwnL.seg {w wr : World} {a : Option Addr} {c n : Nat} {ls : List Lf} (h : OwnL w wr (.slice a n c) ls) : SegL wr a ls := by
  have hcl := fun g hg => h.own.cells (g := g) hg
  rcases h.own.2 with ⟨h0, h1⟩ | ⟨g, cap, cur, h0, _⟩
  · exact .inl (List.eq_nil_of_length_eq_zero h1)
  · cases h0
    refine .inr ⟨g, rfl, fun j l hj => ?_⟩
    obtain ⟨v0, v1, v2⟩ := lvs_get ls j l hj
    have k0 := hcl g rfl _ _ v0
    have k1 := hcl g rfl _ _ v1
    have k2 := hcl g rfl _ _ v2
    rw [addr_add] at k0 k1 k2
    rw [Nat.zero_add] at k0 k1 k2
    exact ⟨k0, k1, k2⟩

set_option maxRecDepth 20000 in
set_option maxHeartbeats 4000000 in
theorem sameL_any (a b : Option Addr) (ls : List Lf) (n c d : Nat) (w : World) (h1 : SegL w a ls) (h2 : SegL w b ls) (hn : n = ls.length) (hl : n ≤ 4294967296) :
    Calls Try.prog 53 #[.slice a n c, .slice b n d] w fun e w' => e = .returned (.bool true) ∧ Keeps (fun _ => False) w w' := by
  have HS : Hid (∀ w', Keeps (fun _ => False) w w' → SegL w' a ls ∧ SegL w' b ls) := fun w' hK => ⟨h1.quiet hK, h2.quiet hK⟩
  have HN : Hid (n = ls.length) := hn
  have hnI : (n : Int) ≤ 4294967296 := by omega
  clear h1 h2 hn hl
  go_enter Try.func53, Try.ntmps53
  go_wp2_with fail
  go_loopw [5] (fun i wr => ∃ j : Nat, j ≤ n ∧ i = .int .i64 (j : Int) ∧ Keeps (fun _ => False) w wr) (fun i _ => n - (intOf i).toNat)
  case atStart => exact ⟨0, by omega, rfl, Keeps.refl _ _⟩
  case round =>
    obtain ⟨j, hj, rfl, hK⟩ := hrel
    have HK : Hid (Keeps (fun _ => False) w wr) := hK
    by_cases hlt : j < n
    · have hlt' : (j : Int) < n := by omega
      obtain ⟨x, hx⟩ : ∃ x, ls[j]? = some x := ⟨_, List.getElem?_eq_getElem (by rw [← HN.out]; exact hlt)⟩
      obtain ⟨s1, s2⟩ := HS.out wr hK
      rcases s1 with h | ⟨g, ha, c1⟩
      · rw [h] at hx; simp at hx
      rcases s2 with h | ⟨g', hb, c2⟩
      · rw [h] at hx; simp at hx
      subst ha hb
      obtain ⟨p0, p1, p2⟩ := c1 j x hx
      obtain ⟨q0, q1, q2⟩ := c2 j x hx
      obtain ⟨P, hP⟩ : ∃ P, P = x.page := ⟨_, rfl⟩
      obtain ⟨F, hF⟩ : ∃ P, P = x.frame := ⟨_, rfl⟩
      obtain ⟨R, hR⟩ : ∃ P, P = x.rights := ⟨_, rfl⟩
      rw [← hP] at p0 q0
      rw [← hF] at p1 q1
      rw [← hR] at p2 q2
      clear c1 c2 hx hK hP hF hR hj
      go_wp2_with fail
      go_quiet (fail)
      go_wp2
      go_roundw
      case rel => exact ⟨j + 1, by omega, by go_num, HK.out.drewN _⟩
      case measure => simp [intOf]; omega
    · have hlt' : ¬ (j : Int) < n := by omega
      clear hK
      go_wp2
      go_ret
      exact ⟨rfl, HK.out⟩
end Go.Proofs.Ytpccdhoaicabcaa
