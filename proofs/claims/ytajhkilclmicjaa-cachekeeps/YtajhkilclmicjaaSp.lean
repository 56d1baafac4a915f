import Derived.Test.YtajhkilclmicjaaLa
namespace Go.Proofs.Ytajhkilclmicjaa
open Go.RowKit Go.Shelf
set_option linter.unusedVariables false

/-- append of a number: and what the slice showed, it shows. -/
theorem append_int2 {w : World} (x : Int) (a : Option Addr) (n c : Nat) (ws : List Int) (hown : w.ownsRow 0 3 1 (.slice a n c) n (flat ws)) (hn : n ≤ 1000) :
    ∃ v' W', (∀ ty, (Builtin.append_ #[59, 59] ty #[.slice a n c, .slice (some ⟨w.heap.size, 0, none⟩) 1 1]).run Try.prog (w.alloc (.cells #[.int .i64 x] 3)) = .ok v' W') ∧ W'.ownsRow 0 3 1 v' (n + 1) (flat (ws ++ [x])) ∧ Grew w (.slice a n c) W' v' ∧
      (v'.ownBlock = (Value.slice a n c).ownBlock ∨ Keeps (fun _ => False) w W') := by
  obtain ⟨i0, hi, hz0, hz1, hz2⟩ := info_parts Try.info3
  obtain ⟨v', W', happ, hown', hgr⟩ := append_int x (.slice a n c) n _ hown (by omega)
  refine ⟨v', W', happ, by rw [flat_append]; exact hown', hgr, ?_⟩
  have hW : Keeps (fun _ => False) w (w.alloc (.cells #[.int .i64 x] 3)) := (Keeps.refl _ w).alloc _
  have hown1 : (w.alloc (.cells #[.int .i64 x] 3)).ownsRow 0 3 1 (.slice a n c) n (flat ws) := owns_kept hown hW (fun _ _ h => h)
  have hnews : ∀ j u, [Value.int .i64 x][j]? = some u → (w.alloc (.cells #[.int .i64 x] 3)).cell? ((⟨w.heap.size, 0, none⟩ : Addr).add j) = some u := by
    intro j u hj
    have hB := Blk.new w #[.int .i64 x] 3
    rw [addr_add]
    exact hB.cell (by rw [Nat.zero_add]; exact hj)
  rcases hown1.2 with ⟨e, h0⟩ | ⟨g, cap, cur, e, _, hg1, hnc, hcm, hcs, htake⟩
  · right
    cases e
    have h2 := run_append_nil (P := Try.prog) (w.alloc (.cells #[.int .i64 x] 3)) 59 0 3 i0 _ Try.underlying59 hi hz0 ⟨w.heap.size, 0, none⟩ 1 1 [.int .i64 x] (by rw [hz1]; rfl) hnews (by omega) (by omega) (by rw [hz2]; omega)
    rw [happ] at h2
    have e2 : W' = _ := (Result.ok.inj h2).2
    rw [e2]
    exact (hW.drew).alloc _
  · cases e
    by_cases hroom : n + 1 ≤ c
    · left
      have h2 := run_append_room (P := Try.prog) (w.alloc (.cells #[.int .i64 x] 3)) 59 0 3 i0 Try.underlying59 hi g n c cur hg1 ⟨w.heap.size, 0, none⟩ 1 1 [.int .i64 x] (by rw [hz1]; rfl) hnews (by intro u hu; simp at hu; rw [hu]; rfl) hroom (by
        rw [hz1, hcs]; simp; omega)
      rw [happ] at h2
      have e1 : v' = _ := (Result.ok.inj h2).1
      rw [e1]
      rfl
    · right
      have h2 := run_append_grow (P := Try.prog) (w.alloc (.cells #[.int .i64 x] 3)) 59 0 3 i0 _ Try.underlying59 hi hz0 ⟨g, 0, none⟩ n c (flat ws) (by rw [hz1]; exact hown1.1) (hown1.cells rfl) ⟨w.heap.size, 0, none⟩ 1 1 [.int .i64 x] (by rw [hz1]; rfl) hnews (by omega) (by omega) (by
        rw [hz2]; exact growslice_fits (by omega) (by omega))
      rw [happ] at h2
      have e2 : W' = _ := (Result.ok.inj h2).2
      rw [e2]
      exact (hW.drew).alloc _

theorem owns_set {w : World} {v u : Value} {n m g : Nat} {vs : List Value} (h : w.ownsRow 0 3 1 v n vs) (hg : v.ownBlock = some g) (hm : m < n) : (w.setCell ⟨g, m, none⟩ u).ownsRow 0 3 1 v n (vs.set m u) := by
  refine ⟨by rw [List.length_set]; exact h.1, ?_⟩
  rcases h.2 with ⟨rfl, h0⟩ | ⟨g', cap, cur, rfl, h1, h2, h3, h4, h5, h6⟩
  · omega
  · simp [Value.ownBlock] at hg
    subst hg
    have hB : Blk w g' cur.toList 3 := h2
    refine .inr ⟨g', cap, (cur.toList.set m u).toArray, rfl, h1, hB.setCell m u, h3, h4, ?_, ?_⟩
    · simpa using h5
    · simp only [List.take_set]
      rw [h6]

/-- One number is written over. -/
theorem Four.put {W : World} {G : Nat} {vs : Nat → Value} {cur : Nat → List Int} {D : Nat → Prop} (h : Four W G vs cur D) {k m g : Nat} (hk : k < 4) (hm : m < (cur k).length) (hg : (vs k).ownBlock = some g) (x : Int) :
    Four (W.setCell ⟨g, m, none⟩ (.int .i64 x)) G vs (fun i => if i = k then (cur i).set m x else cur i) D := by
  have hK : Keeps (· = g) W (W.setCell ⟨g, m, none⟩ (.int .i64 x)) := (Keeps.refl _ W).setCell _ _ fun _ => rfl
  have hsz : (W.setCell ⟨g, m, none⟩ (.int .i64 x)).heap.size = W.heap.size := by simp
  refine ⟨h.blk.kept hK fun e => (h.own k hk g hg).1 e.symm, fun i hi => ?_, fun i hi b hb => ?_, h.apart⟩
  · by_cases e : i = k
    · subst e
      simp only [if_pos]
      have h1 := owns_set (u := .int .i64 x) (h.row i hi) hg (by omega)
      have e1 : (flat (cur i)).set m (.int .i64 x) = flat ((cur i).set m x) := by unfold flat; rw [List.map_set]
      rw [e1] at h1
      rw [List.length_set]
      exact h1
    · simp only [if_neg e]
      exact owns_kept (h.row i hi) hK fun b hb he => h.apart i hi k hk e b hb (by rw [he]; exact hg)
  · obtain ⟨a1, a2, a3⟩ := h.own i hi b hb
    exact ⟨a1, a2, by rw [hsz]; exact a3⟩

def Owned (vs : Nat → Value) (b : Nat) : Prop := ∃ i, i < 4 ∧ (vs i).ownBlock = some b

set_option maxRecDepth 20000 in
set_option maxHeartbeats 4000000 in
theorem spoil_any (G : Nat) (vs : Nat → Value) (cur : Nat → List Int) (D : Nat → Prop) (cap : Nat) (mark : Int) (w : World) (h : Four w G vs cur D) (h3 : ∀ i, i < 4 → (cur i).length ≤ 2) :
    Calls Try.prog 22 #[.slice (some ⟨G, 0, none⟩) 4 cap, .int .i64 mark] w fun e w' => e = .returned (.tuple #[]) ∧ (∃ cur', Four w' G vs cur' D ∧ ∀ i, i < 4 → (cur' i).length = (cur i).length) ∧ Keeps (Owned vs) w w' := by
  have HS : Hid (Four w G vs cur D ∧ ∀ i, i < 4 → (cur i).length ≤ 2) := ⟨h, h3⟩
  clear h h3
  go_enter Try.func22, Try.ntmps22
  go_wp2
  go_loopw [1, 8] (fun mk i wr => ∃ (j : Nat) (z : Int) (cu : Nat → List Int), j ≤ 4 ∧ i = .int .i64 j ∧ mk = .int .i64 z ∧ Four wr G vs cu D ∧ (∀ i, i < 4 → (cu i).length = (cur i).length) ∧ Keeps (Owned vs) w wr) (fun _ i _ => 4 - (intOf i).toNat)
  case atStart => exact ⟨0, mark, cur, by omega, rfl, rfl, HS.out.1, fun _ _ => rfl, Keeps.refl _ _⟩
  case round =>
    obtain ⟨j, z, cu, hj, rfl, rfl, hF, hlen, hK⟩ := hrel
    by_cases hlt : j < 4
    · have cc := hF.blk.cell (four_get vs hlt)
      obtain ⟨a, c, hv, _, hob, _⟩ := owns_seg (hF.row j hlt)
      rw [hv] at cc
      obtain ⟨n, hn⟩ : ∃ n, n = (cur j).length := ⟨_, rfl⟩
      rw [hlen j hlt, ← hn] at cc
      have hnz : (n : Int) ≤ 2 := by have := HS.out.2 j hlt; omega
      have hjz : (j : Int) < 4 := by omega
      have HJ : Hid (j < 4 ∧ n = (cur j).length ∧ (∃ c', vs j = .slice a n c') ∧ (∀ x, a = some x → (vs j).ownBlock = some x.block) ∧ Four wr G vs cu D ∧ (∀ i, i < 4 → (cu i).length = (cur i).length) ∧ Keeps (Owned vs) w wr) := ⟨hlt, hn, ⟨c, by rw [hv, hlen j hlt, hn]⟩, hob, hF, hlen, hK⟩
      clear hF hv hob hn hlt hj hlen hK
      go_wp2
      clear cc
      go_loopw [1, 16] (fun mk i wr => ∃ (m : Nat) (z : Int) (cu : Nat → List Int), m ≤ n ∧ i = .int .i64 m ∧ mk = .int .i64 z ∧ Four wr G vs cu D ∧ (∀ i, i < 4 → (cu i).length = (cur i).length) ∧ Keeps (Owned vs) w wr) (fun _ i _ => n - (intOf i).toNat)
      case atStart => exact ⟨0, z, cu, by omega, rfl, rfl, HJ.out.2.2.2.2.1, HJ.out.2.2.2.2.2.1, HJ.out.2.2.2.2.2.2⟩
      case round =>
        obtain ⟨m, z, cu, hm, rfl, rfl, hF, hlen, hK⟩ := hrel
        obtain ⟨hlt, hn, ⟨c', hvj⟩, hob, -, -, -⟩ := HJ.out
        by_cases hmn : m < n
        · have hml : m < (cu j).length := by rw [hlen j hlt]; omega
          have cc := hF.blk.cell (four_get vs hlt)
          rw [hvj] at cc
          obtain ⟨a', c2, hv, hs, _, _⟩ := owns_seg (hF.row j hlt)
          rw [hvj] at hv
          injection hv with e1 e2 e3
          subst e1
          rcases hs with h0 | ⟨g, o, rfl, hcell⟩
          · exact absurd hml (by rw [h0]; simp)
          · have hgb := hob _ rfl
            have ho : o = 0 := by
              rw [hvj] at hgb
              rcases (hF.row j hlt).2 with ⟨h1, _⟩ | ⟨g', cap', cur', h1, _⟩
              · rw [hvj] at h1; cases h1
              · rw [hvj] at h1; injection h1 with h1; injection h1 with h1; injection h1
            subst ho
            have cx := hcell m hml
            rw [Nat.zero_add] at cx
            have fx : wr.frozen? ⟨g, m, none⟩ = false := by
              rcases (hF.row j hlt).2 with ⟨h1, _⟩ | ⟨g', cap', cur', h1, _, h2, _⟩
              · rw [hvj] at h1; cases h1
              · rw [hvj] at h1; injection h1 with h1; injection h1 with h1; injection h1 with h1
                subst h1
                exact (show Blk wr g cur'.toList 3 from h2).frozen m
            have HR : Hid (Four (wr.setCell ⟨g, m, none⟩ (.int .i64 z)) G vs (fun i => if i = j then (cu i).set m z else cu i) D ∧ (∀ i, i < 4 → (if i = j then (cu i).set m z else cu i).length = (cur i).length) ∧ Keeps (Owned vs) w (wr.setCell ⟨g, m, none⟩ (.int .i64 z)) ∧ m < n) := by
              refine ⟨hF.put hlt hml hgb z, fun i hi => ?_, hK.setCell _ _ fun _ => ⟨j, hlt, hgb⟩, hmn⟩
              by_cases e : i = j
              · simp [e, hlen j hlt]
              · simp [e, hlen i hi]
            have hmz : (m : Int) < n := by omega
            obtain ⟨y, hy⟩ : ∃ y, y = (cu j)[m]'hml := ⟨_, rfl⟩
            rw [← hy] at cx
            clear hF hlen hK hm hmn hml hcell hgb hy hvj hob hn hlt
            go_wp2
            go_roundw
            case rel => exact ⟨m + 1, _, _, by have := HR.out.2.2.2; omega, by go_num, rfl, HR.out.1, HR.out.2.1, HR.out.2.2.1⟩
            case measure => have := HR.out.2.2.2; simp [intOf]; omega
        · obtain rfl : m = n := by omega
          have HR : Hid (j < 4 ∧ Four wr G vs cu D ∧ (∀ i, i < 4 → (cu i).length = (cur i).length) ∧ Keeps (Owned vs) w wr) := ⟨hlt, hF, hlen, hK⟩
          clear hF hlen hK hm hmn hvj hob hn hlt
          go_wp2
          go_roundw
          case rel => exact ⟨j + 1, z, cu, by have := HR.out.1; omega, by go_num, rfl, HR.out.2⟩
          case measure => have := HR.out.1; simp [intOf]; omega
    · obtain rfl : j = 4 := by omega
      have HR : Hid ((∃ cur', Four wr G vs cur' D ∧ ∀ i, i < 4 → (cur' i).length = (cur i).length) ∧ Keeps (Owned vs) w wr) := ⟨⟨cu, hF, hlen⟩, hK⟩
      clear hF hlen hK hj hlt
      go_wp2
      go_end0
      exact ⟨rfl, HR.out⟩

end Go.Proofs.Ytajhkilclmicjaa
