import Derived.Test.YtakidbjkpbgmmaaLb
namespace Go.Proofs.Ytakidbjkpbgmmaa
open Go.RowKit Go.Shelf
set_option linter.unusedVariables false

theorem full_get (ls : List Lf) (i : Nat) (hi : i < ls.length + 40) : (ls ++ tailM ls.length)[i]? = some (if h : i < ls.length then ls[i] else mk i) := by
  by_cases h : i < ls.length
  · rw [List.getElem?_append_left h, dif_pos h, List.getElem?_eq_getElem h]
  · rw [List.getElem?_append_right (by omega), dif_neg h, tailM_get _ _ (by omega), show ls.length + (i - ls.length) = i by omega]

set_option maxHeartbeats 1000000 in
theorem kept_any (g : Nat) (a : Option Addr) (ls : List Lf) (c : Nat) (w : World) (hl : ls.length ≤ c ∧ c ≤ maxLen) (hb : ls.length ≤ 5864062014634) (hs : SegL w a ls) (hB : Blk w g (flatL (ls ++ tailM ls.length)) 38) :
    Calls Try.prog 24 #[.slice (some ⟨g, 0, none⟩) ls.length (ls.length + 40), .slice a ls.length c] w fun r w' => r = .returned (.bool true) ∧ Keeps (fun _ => False) w w' := by
  obtain ⟨n, hn⟩ : ∃ n, n = ls.length := ⟨_, rfl⟩
  have e40 : IntKind.i64.wrap ((n : Int) + 40) = ((n + 40 : Nat) : Int) := by rw [IntKind.wrap_i64]; omega
  obtain ⟨m, hmm⟩ : ∃ m, m = n + 40 := ⟨_, rfl⟩
  have HS : Hid (SegL w a ls ∧ n = ls.length ∧ Blk w g (flatL (ls ++ tailM ls.length)) 38 ∧ m = n + 40) := ⟨hs, hn, hB, hmm⟩
  rw [← hmm] at e40
  have hc2 : (n : Int) ≤ c := by omega
  have hc3 : (c : Int) ≤ 9223372036854775807 := by unfold maxLen at hl; omega
  have hm2 : (m : Int) ≤ 5864062014674 := by omega
  have hm3 : (n : Int) ≤ m := by omega
  rw [← hn, ← hmm]
  clear hl hs hn hB hb hmm
  go_enter Try.func24, Try.ntmps24
  go_wp2
  clear e40
  go_loopw [6] (fun i wr => ∃ j : Nat, j ≤ m ∧ i = .int .i64 j ∧ Keeps (fun _ => False) w wr) (fun i _ => m - (intOf i).toNat)
  case atStart => exact ⟨0, by omega, rfl, Keeps.refl _ _⟩
  case round =>
    obtain ⟨j, hj, rfl, hK⟩ := hrel
    by_cases hlt : j < m
    · have HC : Hid (Calls _ _ _ _ _) := mark_any j wr (by omega)
      have HJ : Hid (Keeps (fun _ => False) w wr) := hK
      have hlt' : (j : Int) < m := by omega
      clear hK
      go_wp2_with fail
      refine HC.out.mono ?_
      rintro r w1 ⟨rfl, hK1⟩
      have hKw := HJ.out.trans hK1 fun _ _ h => h
      have hfull := full_get ls j (by have := HS.out; omega)
      obtain ⟨z0, z1, z2⟩ := (HS.out.2.2.1.kept hKw fun h => h).leafAt hfull
      have hgl : g < w1.heap.size := World.block_lt_of_cell? w1 _ z0
      obtain ⟨X, hX⟩ : ∃ X, X = w1.alloc (.cells #[.int .i64 (mk j).p, .int .i64 (mk j).f, .int .i64 (mk j).r] 38) := ⟨_, rfl⟩
      have hKX : Keeps (fun _ => False) w X := by rw [hX]; exact hKw.alloc _
      by_cases hjn : j < n
      · have hjl : j < ls.length := by have := HS.out.2.1; omega
        rw [dif_pos hjl] at z0 z1 z2
        obtain ⟨y, hy⟩ : ∃ y, y = ls[j] := ⟨_, rfl⟩
        rw [← hy] at z0 z1 z2
        have hy' : ls[j]? = some y := by rw [hy]; exact List.getElem?_eq_getElem hjl
        obtain ⟨g4, o4, rfl, hy3⟩ : ∃ g o, a = some ⟨g, o, none⟩ ∧ LeafAt w g (o + j * 3) y := by
          rcases HS.out.1 with h | ⟨g, o, ha, h⟩
          · rw [h] at hy'; simp at hy'
          · exact ⟨g, o, ha, h j y hy'⟩
        obtain ⟨y0, y1, y2⟩ := hy3.kept hKw fun h => h
        have hg4 : g4 < w1.heap.size := World.block_lt_of_cell? w1 _ y0
        have hjn' : (j : Int) < n := by omega
        have HE : Hid (∀ q, Keeps (fun _ => False) w (((w1.alloc (.cells #[.int .i64 y.p, .int .i64 y.f, .int .i64 y.r] 38))).drewN q)) := fun q => (hKw.alloc _).drewN q
        clear hy hy' hy3 hK1 hKw hKX hX HC hfull
        go_wp2_with fail
        go_quiet (fail)
        go_wp2
        go_roundw
        case rel => exact ⟨j + 1, by omega, by go_num, HE.out nq⟩
        case measure => simp [intOf]; omega
      · rw [dif_neg (by have := HS.out.2.1; omega)] at z0 z1 z2
        have hjn' : ¬ (j : Int) < n := by omega
        have HE : Hid (∀ q, Keeps (fun _ => False) w (((w1.alloc (.cells #[.int .i64 (mk j).p, .int .i64 (mk j).f, .int .i64 (mk j).r] 38))).drewN q)) := fun q => (hKw.alloc _).drewN q
        clear hK1 hKw hKX hX HC hfull
        go_wp2_with fail
        go_quiet (fail)
        go_wp2
        go_roundw
        case rel => exact ⟨j + 1, by omega, by go_num, HE.out nq⟩
        case measure => simp [intOf]; omega
    · obtain rfl : j = m := by omega
      have HJ : Hid (Keeps (fun _ => False) w wr) := hK
      clear hK
      go_wp2
      go_ret
      exact ⟨rfl, HJ.out⟩

/-- A row of one's own, cell by cell. -/
def OwnAt (w : World) (g n cap : Nat) : Prop := ∃ l : List Value, Blk w g l 38 ∧ l.length = cap * 3 ∧ n ≤ cap ∧ cap ≤ maxLen

theorem own_at {w : World} {g n cap : Nat} {vs : List Value} (h : w.ownsRow 0 38 3 (.slice (some ⟨g, 0, none⟩) n cap) n vs) : OwnAt w g n cap := by
  rcases h.2 with ⟨h, _⟩ | ⟨g', cap', cur, h, _, hg, h1, h2, h3, _⟩
  · simp at h
  · simp at h
    obtain ⟨rfl, rfl⟩ := h
    exact ⟨cur.toList, by unfold Blk; simpa using hg, by simpa using h3, h1, h2⟩
theorem at_own {w : World} {g n cap : Nat} (h : OwnAt w g n cap) : ∃ vs, w.ownsRow 0 38 3 (.slice (some ⟨g, 0, none⟩) n cap) n vs := by
  obtain ⟨l, h1, h2, h3, h4⟩ := h
  exact ⟨l.take (n * 3), by rw [List.length_take]; have := Nat.mul_le_mul_right 3 h3; omega, .inr ⟨g, cap, l.toArray, rfl, Nat.zero_le _, h1, h3, h4, by simpa using h2, by simp⟩⟩
theorem OwnAt.cells {w : World} {g n cap i : Nat} (h : OwnAt w g n cap) (hi : i < cap * 3) : (∃ v, w.cell? ⟨g, i, none⟩ = some v) ∧ w.frozen? ⟨g, i, none⟩ = false := by
  obtain ⟨l, h1, h2, h3, h4⟩ := h
  exact ⟨⟨l[i]'(by omega), h1.cell (List.getElem?_eq_getElem (by omega))⟩, h1.frozen i⟩
theorem OwnAt.set {w : World} {g n cap : Nat} (h : OwnAt w g n cap) (i : Nat) (v : Value) : OwnAt (w.setCell ⟨g, i, none⟩ v) g n cap := by
  obtain ⟨l, h1, h2, h3, h4⟩ := h
  exact ⟨l.set i v, h1.setCell i v, by simpa using h2, h3, h4⟩

theorem append_leaf2 {w : World} (l : Lf) (v : Value) (n : Nat) (vs : List Value) (hown : w.ownsRow 0 38 3 v n vs) (hn : n ≤ 5864062014804) :
    ∃ v' W', (∀ ty, (Builtin.append_ #[26, 26] ty #[v, .slice (some ⟨w.heap.size, 0, none⟩) 1 1]).run Try.prog (w.alloc (.cells #[.int .i64 l.p, .int .i64 l.f, .int .i64 l.r] 38)) = .ok v' W') ∧ W'.ownsRow 0 38 3 v' (n + 1) (vs ++ l.vs) ∧ Grew w v W' v' := by
  obtain ⟨i0, hi, hz0, hz1, hz2⟩ := info_parts Try.info38
  obtain ⟨v', W', h1, h2, h3, h4⟩ := append_new 26 38 i0 (.agg #[.int .i64 0, .int .i64 0, .int .i64 0]) 3 24 Try.underlying26 hi hz0 hz1 hz2 rfl (by omega) v n vs hown #[.int .i64 l.p, .int .i64 l.f, .int .i64 l.r] rfl (by
    intro y hy
    simp at hy
    rcases hy with rfl | rfl | rfl <;> rfl) (by unfold maxLen; omega) (by omega)
  exact ⟨v', W', h1, h2, h3, h4⟩

set_option maxHeartbeats 2000000 in
theorem spoil_any (g n cap : Nat) (m : Int) (w : World) (h : OwnAt w g n cap) (hn : n ≤ 5864062014634) (hm : 0 ≤ m ∧ m ≤ 1000) :
    Calls Try.prog 21 #[.slice (some ⟨g, 0, none⟩) n cap, .int .i64 m] w fun r w' => r = .returned (.tuple #[]) ∧ Keeps (fun b => b = g) w w' := by
  have hcap : (n : Int) ≤ cap ∧ (cap : Int) ≤ 9223372036854775807 := by
    obtain ⟨l, h1, h2, h3, h4⟩ := h
    unfold maxLen at h4; omega
  have HS : Hid (OwnAt w g n cap ∧ n ≤ 5864062014634) := ⟨h, hn⟩
  have e1 : IntKind.i64.wrap (-m) = -m := by rw [IntKind.wrap_i64]; omega
  obtain ⟨hc1, hc2⟩ := hcap
  obtain ⟨hm1, hm2⟩ := hm
  clear h
  go_enter Try.func21, Try.ntmps21
  go_wp2
  go_loopw [4] (fun i wr => ∃ j : Nat, j ≤ n ∧ i = .int .i64 j ∧ OwnAt wr g n cap ∧ Keeps (fun b => b = g) w wr) (fun i _ => n - (intOf i).toNat)
  case atStart => exact ⟨0, by omega, rfl, HS.out.1, Keeps.refl _ _⟩
  case round =>
    obtain ⟨j, hj, rfl, hO, hK⟩ := hrel
    by_cases hlt : j < n
    · obtain ⟨⟨z0, c0⟩, f0⟩ := hO.cells (i := j * 3) (by have := hO; obtain ⟨l, h1, h2, h3, h4⟩ := this; omega)
      obtain ⟨⟨z1, c1⟩, f1⟩ := hO.cells (i := j * 3 + 1) (by have := hO; obtain ⟨l, h1, h2, h3, h4⟩ := this; omega)
      obtain ⟨⟨z2, c2⟩, f2⟩ := hO.cells (i := j * 3 + 2) (by have := hO; obtain ⟨l, h1, h2, h3, h4⟩ := this; omega)
      have e2 : IntKind.i64.wrap (m + (j : Int)) = m + (j : Int) := by rw [IntKind.wrap_i64]; omega
      have hlt' : (j : Int) < n := by omega
      have HE : Hid (∀ u0 u1 u2, OwnAt (((wr.setCell ⟨g, j * 3, none⟩ u0).setCell ⟨g, j * 3 + 1, none⟩ u1).setCell ⟨g, j * 3 + 2, none⟩ u2) g n cap ∧ Keeps (fun b => b = g) w (((wr.setCell ⟨g, j * 3, none⟩ u0).setCell ⟨g, j * 3 + 1, none⟩ u1).setCell ⟨g, j * 3 + 2, none⟩ u2)) :=
        fun u0 u1 u2 => ⟨((hO.set _ _).set _ _).set _ _, ((hK.setCell _ _ fun _ => rfl).setCell _ _ fun _ => rfl).setCell _ _ fun _ => rfl⟩
      clear hO hK
      go_wp2
      go_roundw
      case rel => exact ⟨j + 1, by omega, by go_num, HE.out _ _ _⟩
      case measure => simp [intOf]; omega
    · obtain rfl : j = n := by omega
      obtain ⟨vs, hv⟩ := at_own hO
      have H1 : Hid ((∃ vs, wr.ownsRow 0 38 3 (.slice (some ⟨g, 0, none⟩) j cap) j vs) ∧ Keeps (fun b => b = g) w wr) := ⟨⟨vs, hv⟩, hK⟩
      clear hO hK hv
      go_wp2
      go_loopw [0, 5] (fun v i wx => ∃ k : Nat, k ≤ 40 ∧ i = .int .i64 k ∧ (∃ vs, wx.ownsRow 0 38 3 v (j + k) vs) ∧ Keeps (fun b => b = g) w wx ∧ ∀ b, v.ownBlock = some b → b = g ∨ w.heap.size ≤ b) (fun _ i _ => 40 - (intOf i).toNat)
      case atStart => exact ⟨0, by omega, rfl, H1.out.1, H1.out.2, fun b hb => by simp [Value.ownBlock] at hb; exact .inl hb.symm⟩
      case round =>
        obtain ⟨k, hk, rfl, ⟨vs, hO⟩, hK, hb⟩ := hrel
        by_cases hlt : k < 40
        · obtain ⟨v', W', happ, hown', hgr⟩ := append_leaf2 ⟨-m, k, m⟩ u0 _ _ hO (by have := HS.out.2; omega)
          have HAP : Hid (∀ ty, _) := happ
          have hlt' : (k : Int) < 40 := by omega
          have HE : Hid ((∃ vs, W'.ownsRow 0 38 3 v' (j + (k + 1)) vs) ∧ Keeps (fun b => b = g) w W' ∧ ∀ b, v'.ownBlock = some b → b = g ∨ w.heap.size ≤ b) := by
            refine ⟨⟨_, hown'⟩, hK.trans hgr.keeps fun b hb' he => ?_, fun b hb' => ?_⟩
            · rcases hb b he.symm with h | h
              · exact h
              · omega
            · rcases hgr.fresh with e | ⟨z, e, hz⟩
              · rw [e] at hb'; exact hb b hb'
              · rw [e] at hb'; cases hb'; have := hK.size; exact .inr (by omega)
          clear hO hK hb happ hown' hgr
          go_wp2_with (at_builtin; go_must (refine wpList_append_run rfl _ _ 26 26 rfl _ _ _ W' rfl rfl HAP.out ?_; refine Hid.out ?_))
          unfold Hid
          clear HAP
          go_wp2
          go_roundw
          case rel => exact ⟨k + 1, by omega, by go_num, HE.out⟩
          case measure => simp [intOf]; omega
        · obtain rfl : k = 40 := by omega
          have HE : Hid (Keeps (fun b => b = g) w wr) := hK
          clear hO hK hb
          go_wp2
          go_end0
          exact ⟨rfl, HE.out⟩

end Go.Proofs.Ytakidbjkpbgmmaa
