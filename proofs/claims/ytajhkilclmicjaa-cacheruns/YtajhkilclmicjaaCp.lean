import Derived.Test.YtajhkilclmicjaaKp
namespace Go.Proofs.Ytajhkilclmicjaa
open Go.RowKit Go.Shelf
set_option linter.unusedVariables false

/-- Four lists that can be read, in blocks among D. -/
structure LD (w : World) (G : Nat) (vs : Nat → Value) (ls : Nat → List Int) (D : Nat → Prop) : Prop where
  lst : Lst w G vs ls
  g : D G
  s : ∀ i, i < 4 → ∀ a n c, vs i = .slice a n c → ∀ x, a = some x → D x.block

theorem LD.kept {S D : Nat → Prop} {w w' : World} {G : Nat} {vs : Nat → Value} {ls : Nat → List Int} (h : LD w G vs ls D) (hK : Keeps S w w') (hD : ∀ b, D b → ¬ S b) : LD w' G vs ls D := by
  refine ⟨⟨fun i hi => cell_kept (h.lst.cell i hi) hK (hD _ h.g), fun i hi => ?_⟩, h.g, h.s⟩
  obtain ⟨a, c, h1, h2, h3⟩ := h.lst.seg i hi
  exact ⟨a, c, h1, h2.kept hK fun x hx => hD _ (h.s i hi a _ c h1 x hx), h3⟩
theorem LD.mono {D D' : Nat → Prop} {w : World} {G : Nat} {vs : Nat → Value} {ls : Nat → List Int} (h : LD w G vs ls D) (hD : ∀ b, D b → D' b) : LD w G vs ls D' :=
  ⟨h.lst, hD _ h.g, fun i hi a n c e x hx => hD _ (h.s i hi a n c e x hx)⟩
theorem Four.ld {w : World} {G : Nat} {vs : Nat → Value} {ls : Nat → List Int} {D : Nat → Prop} (h : Four w G vs ls D) (hG : D G) : LD w G vs ls D := by
  refine ⟨h.lst, hG, fun i hi a n c e x hx => ?_⟩
  obtain ⟨a', c', h1, h2, h3, h4⟩ := owns_seg (h.row i hi)
  rw [e] at h1
  injection h1 with e1 e2 e3
  have := h3 x (by rw [← e1]; exact hx)
  exact (h.own i hi _ this).2.1

theorem append_row {w : World} (a : Option Addr) (m c : Nat) (v : Value) (n : Nat) (vs : List Value) (hown : w.ownsRow 0 59 1 v n vs) (hn : n ≤ 1000) :
    ∃ v' W', (∀ ty, (Builtin.append_ #[27, 27] ty #[v, .slice (some ⟨w.heap.size, 0, none⟩) 1 1]).run Try.prog (w.alloc (.cells #[.slice a m c] 59)) = .ok v' W') ∧ W'.ownsRow 0 59 1 v' (n + 1) (vs ++ [.slice a m c]) ∧ Grew w v W' v' := by
  obtain ⟨i0, hi, hz0, hz1, hz2⟩ := info_parts Try.info59
  obtain ⟨v', W', h1, h2, h3, h4⟩ := append_new 27 59 i0 (.slice none 0 0) 1 24 Try.underlying27 hi hz0 hz1 hz2 rfl (by omega) v n vs hown #[.slice a m c] rfl (by
    intro y hy
    simp at hy
    rw [hy]; rfl) (by unfold maxLen; omega) (by omega)
  exact ⟨v', W', h1, h2, h3, h4⟩

/-- The lists that are there already. -/
structure CR (w W : World) (v : Value) (rows : Nat → Value) (ls : Nat → List Int) (j : Nat) : Prop where
  own : W.ownsRow 0 59 1 v j ((List.range j).map rows)
  fresh : ∀ g, v.ownBlock = some g → w.heap.size ≤ g
  row : ∀ i, i < j → ∃ a c, rows i = .slice a (ls i).length c ∧ SegI W a (ls i) ∧ (ls i).length ≤ c ∧ ∀ x, a = some x → w.heap.size ≤ x.block ∧ v.ownBlock ≠ some x.block ∧ x.block < W.heap.size
  keeps : Keeps (fun _ => False) w W

theorem CR.kept {w W W' : World} {v : Value} {rows : Nat → Value} {ls : Nat → List Int} {j : Nat} (h : CR w W v rows ls j) (hK : Keeps (fun _ => False) W W') : CR w W' v rows ls j := by
  refine ⟨owns_kept h.own hK fun _ _ h => h, h.fresh, fun i hi => ?_, h.keeps.trans hK fun _ _ h => h⟩
  obtain ⟨a, c, h1, h2, h3, h4⟩ := h.row i hi
  exact ⟨a, c, h1, h2.kept hK fun _ _ h => h, h3, fun x hx => ⟨(h4 x hx).1, (h4 x hx).2.1, Nat.lt_of_lt_of_le (h4 x hx).2.2 hK.size⟩⟩

/-- One row more. -/
theorem CR.more {w Wo W W' : World} {v v' : Value} {rows : Nat → Value} {ls : Nat → List Int} {j : Nat} {a : Option Addr} {c : Nat} (h : CR w Wo v rows ls j) (hK : Keeps (fun _ => False) Wo W)
    (hs : SegI W a (ls j)) (hc : (ls j).length ≤ c) (ha : ∀ x, a = some x → Wo.heap.size ≤ x.block ∧ x.block < W.heap.size)
    (hO : W'.ownsRow 0 59 1 v' (j + 1) ((List.range j).map rows ++ [.slice a (ls j).length c])) (hG : Grew W v W' v') :
    CR w W' v' (fun i => if i = j then .slice a (ls j).length c else rows i) ls (j + 1) := by
  have h' := h.kept hK
  have hv : ∀ g, v.ownBlock = some g → g < Wo.heap.size := fun g hg => owns_lt h.own hg
  have hnew : ∀ g, v'.ownBlock = some g → v.ownBlock = some g ∨ W.heap.size ≤ g := by
    intro g hg
    rcases hG.fresh with e | ⟨b, e, hb⟩
    · exact .inl (by rw [← e]; exact hg)
    · rw [e] at hg; cases hg; exact .inr hb
  refine ⟨?_, ?_, ?_, ?_⟩
  · have e : (List.range (j + 1)).map (fun i => if i = j then Value.slice a (ls j).length c else rows i) = (List.range j).map rows ++ [.slice a (ls j).length c] := by
      rw [List.range_succ, List.map_append]
      congr 1
      · refine List.map_congr_left fun i hi => ?_
        have : i < j := by simpa using hi
        rw [if_neg (by omega)]
      · simp
    rw [e]
    exact hO
  · intro g hg
    rcases hnew g hg with h1 | h1
    · exact h.fresh g h1
    · have := h.keeps.size; have := hK.size; omega
  · intro i hi
    by_cases e : i = j
    · subst e
      simp only [if_pos]
      refine ⟨a, c, rfl, hs.kept hG.keeps fun x hx he => ?_, hc, fun x hx => ⟨?_, fun hb => ?_, ?_⟩⟩
      · have := hv _ he.symm; have := (ha x hx).1; omega
      · have := (ha x hx).1; have := h.keeps.size; omega
      · rcases hnew _ hb with h1 | h1
        · have := hv _ h1; have := (ha x hx).1; omega
        · have := (ha x hx).2; omega
      · exact Nat.lt_of_lt_of_le (ha x hx).2 hG.keeps.size
    · simp only [if_neg e]
      obtain ⟨a', c', g1, g2, g3, g4⟩ := h'.row i (by omega)
      refine ⟨a', c', g1, g2.kept hG.keeps fun x hx he => (g4 x hx).2.1 he.symm, g3, fun x hx => ⟨(g4 x hx).1, fun hb => ?_, Nat.lt_of_lt_of_le (g4 x hx).2.2 hG.keeps.size⟩⟩
      rcases hnew _ hb with h1 | h1
      · exact (g4 x hx).2.1 h1
      · have := (g4 x hx).2.2; omega
  · refine h'.keeps.trans hG.keeps fun b hb he => ?_
    have := h.fresh b he.symm; omega

theorem CR.ld {w W : World} {v : Value} {rows : Nat → Value} {ls : Nat → List Int} (h : CR w W v rows ls 4) : ∃ G cap, v = .slice (some ⟨G, 0, none⟩) 4 cap ∧ LD W G rows ls (fun b => w.heap.size ≤ b ∧ b < W.heap.size) := by
  have hh := h.own
  rcases hh.2 with ⟨_, h0⟩ | ⟨G, cap, cur, rfl, h5, h6, h7⟩
  · omega
  · refine ⟨G, cap, rfl, ⟨⟨fun i hi => ?_, fun i hi => ?_⟩, ⟨h.fresh G rfl, owns_lt hh rfl⟩, fun i hi a n c e x hx => ?_⟩⟩
    · have := hh.cells (g := G) rfl i (rows i) (by simp [hi])
      rw [addr_add, Nat.zero_add] at this
      exact this
    · obtain ⟨a, c, g1, g2, g3, g4⟩ := h.row i hi
      exact ⟨a, c, g1, g2, g3⟩
    · obtain ⟨a', c', g1, g2, g3, g4⟩ := h.row i hi
      rw [e] at g1
      injection g1 with e1 e2 e3
      have := g4 x (by rw [← e1]; exact hx)
      exact ⟨this.1, this.2.2⟩

set_option maxRecDepth 20000 in
set_option maxHeartbeats 4000000 in
theorem copied_any (G : Nat) (vs : Nat → Value) (ls : Nat → List Int) (cap : Nat) (w : World) (h : Lst w G vs ls) (h3 : ∀ i, i < 4 → (ls i).length ≤ 2) :
    Calls Try.prog 20 #[.slice (some ⟨G, 0, none⟩) 4 cap] w fun e w' => ∃ G' vs' cap', e = .returned (.slice (some ⟨G', 0, none⟩) 4 cap') ∧ LD w' G' vs' ls (fun b => w.heap.size ≤ b ∧ b < w'.heap.size) ∧ Keeps (fun _ => False) w w' := by
  have HS : Hid (Lst w G vs ls ∧ ∀ i, i < 4 → (ls i).length ≤ 2) := ⟨h, h3⟩
  have H0 : Hid (CR w w (.slice none 0 0) (fun _ => undef) ls 0) := ⟨by simpa using World.ownsRow_nil w 0 59 1, fun g hg => by simp [Value.ownBlock] at hg, fun i hi => by omega, Keeps.refl _ _⟩
  clear h h3
  go_enter Try.func20, Try.ntmps20
  go_wp2
  go_loopw [3, 9] (fun v i wr => ∃ (j : Nat) (rows : Nat → Value), j ≤ 4 ∧ i = .int .i64 j ∧ CR w wr v rows ls j) (fun _ i _ => 4 - (intOf i).toNat)
  case atStart => exact ⟨0, _, by omega, rfl, H0.out⟩
  case round =>
    obtain ⟨j, rows, hj, rfl, hC⟩ := hrel
    clear H0
    by_cases hlt : j < 4
    · have hl := HS.out.1.kept hC.keeps
      have cu := hl.cell j hlt
      obtain ⟨a, c, hv, hs, _⟩ := hl.seg j hlt
      rw [hv] at cu
      obtain ⟨n, hn⟩ : ∃ n, n = (ls j).length := ⟨_, rfl⟩
      rw [← hn] at cu
      have hnz : (n : Int) ≤ 2 := by have := HS.out.2 j hlt; omega
      have hjz : (j : Int) < 4 := by omega
      obtain ⟨va, vc, rfl⟩ := owns_form hC.own
      have HJ : Hid (CR w wr (.slice va j vc) rows ls j ∧ j < 4 ∧ n = (ls j).length ∧ SegI wr a (ls j) ∧ wr.cell? ⟨G, j, none⟩ = some (.slice a n c)) := ⟨hC, hlt, hn, hs, cu⟩
      obtain ⟨wo, hwo⟩ : ∃ wo, wo = wr := ⟨_, rfl⟩
      subst hwo
      clear hC hl hv hs hn hlt hj
      go_wp2
      clear cu
      go_loopw [5, 17] (fun kv i wq => ∃ (m : Nat), m ≤ n ∧ i = .int .i64 m ∧ wq.ownsRow 0 3 1 kv m (flat ((ls j).take m)) ∧ Grew wo (.slice none 0 0) wq kv) (fun _ i _ => n - (intOf i).toNat)
      case atStart => exact ⟨0, by omega, rfl, by simpa [flat] using World.ownsRow_nil wo 0 3 1, Grew.refl _ _⟩
      case round =>
        obtain ⟨m, hm, rfl, hO, hG⟩ := hrel
        obtain ⟨b1, b2, b3, b4, b5⟩ := HJ.out
        have hKq : Keeps (fun _ => False) wo wr := hG.owns rfl
        by_cases hmn : m < n
        · have hmu : m < (ls j).length := by omega
          have cu := cell_kept b5 hKq fun h => h
          rcases b4.kept hKq fun _ _ h => h with h0 | ⟨b, o, rfl, hcell⟩
          · exact absurd hmu (by rw [h0]; simp)
          · have cx := hcell m hmu
            obtain ⟨x, hxx⟩ : ∃ x, x = (ls j)[m]'hmu := ⟨_, rfl⟩
            rw [← hxx] at cx
            obtain ⟨ka, kc, rfl⟩ := owns_form hO
            obtain ⟨v', W', happ, hown', hgr⟩ := append_int x (.slice ka m kc) _ _ hO (by omega)
            have HAP : Hid (∀ ty, (Builtin.append_ #[59, 59] ty #[.slice ka m kc, .slice (some ⟨wr.heap.size, 0, none⟩) 1 1]).run Try.prog (wr.alloc (.cells #[.int .i64 x] 3)) = .ok v' W') := happ
            have HR : Hid (W'.ownsRow 0 3 1 v' (m + 1) (flat ((ls j).take (m + 1))) ∧ Grew wo (.slice none 0 0) W' v' ∧ m < n) := by
              refine ⟨?_, hG.trans hgr, hmn⟩
              rw [List.take_add_one, List.getElem?_eq_getElem hmu, ← hxx, flat_append]
              exact hown'
            have hmz : (m : Int) < n := by omega
            clear happ hown' hgr hO hG hm hmn hmu hcell hxx b1 b2 b3 b5 hKq
            go_wp2_with (at_builtin; go_must (refine wpList_append_run rfl (.tmp 20) (.tmp 28) 59 59 rfl (.slice ka m kc) (.slice (some ⟨wr.heap.size, 0, none⟩) 1 1) v' W' rfl rfl HAP.out ?_; refine Hid.out ?_))
            unfold Hid
            clear cu cx
            go_wp2
            go_roundw
            case rel => exact ⟨m + 1, by have := HR.out.2.2; omega, by go_num, HR.out.1, HR.out.2.1⟩
            case measure => have := HR.out.2.2; simp [intOf]; omega
        · obtain rfl : m = n := by omega
          have hO' : wr.ownsRow 0 3 1 u5 m (flat (ls j)) := by
            rw [List.take_of_length_le (by omega)] at hO
            exact hO
          obtain ⟨ka, kc, rfl, hks, hkb, hkc⟩ := owns_seg hO'
          obtain ⟨v', W', happ, hown', hgr⟩ := append_row ka (ls j).length kc (.slice va j vc) j _ (owns_kept b1.own hKq fun _ _ h => h) (by omega)
          have hC' := b1.more hKq hks hkc (fun x hx => ⟨?_, owns_lt hO' (hkb x hx)⟩) hown' hgr
          · have HR : Hid (CR w W' v' (fun i => if i = j then .slice ka (ls j).length kc else rows i) ls (j + 1) ∧ j < 4) := ⟨hC', b2⟩
            rw [← b3] at happ ⊢
            have HAP : Hid (∀ ty, (Builtin.append_ #[27, 27] ty #[.slice va j vc, .slice (some ⟨wr.heap.size, 0, none⟩) 1 1]).run Try.prog (wr.alloc (.cells #[.slice ka m kc] 59)) = .ok v' W') := happ
            clear happ hown' hgr hC' hO hO' hG hm hmn hks hkb hkc b1 b2 b3 b4 b5 hKq
            go_wp2_with (at_builtin; go_must (refine wpList_append_run rfl (.tmp 31) (.tmp 33) 27 27 rfl (.slice va j vc) (.slice (some ⟨wr.heap.size, 0, none⟩) 1 1) v' W' rfl rfl HAP.out ?_; refine Hid.out ?_))
            unfold Hid
            go_wp2
            go_roundw
            case rel => exact ⟨j + 1, _, by have := HR.out.2; omega, by go_num, HR.out.1⟩
            case measure => have := HR.out.2; simp [intOf]; omega
          · rcases hG.fresh with e | ⟨k, e, hk⟩
            · have h1 := hkb x hx
              rw [e] at h1
              simp [Value.ownBlock] at h1
            · have h1 := hkb x hx
              rw [e] at h1
              cases h1
              exact hk
    · obtain rfl : j = 4 := by omega
      have HR : Hid (CR w wr u3 rows ls 4) := hC
      clear hC hj hlt
      go_wp2
      go_ret
      obtain ⟨G', cap', rfl, h1⟩ := HR.out.ld
      exact ⟨G', rows, cap', rfl, h1, HR.out.keeps⟩

end Go.Proofs.Ytajhkilclmicjaa
