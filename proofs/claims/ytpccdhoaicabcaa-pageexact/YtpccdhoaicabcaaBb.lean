import Derived.Test.YtpccdhoaicabcaaBa
namespace Go.Proofs.Ytpccdhoaicabcaa
open Go.RowKit
set_option linter.unusedVariables false
set_option linter.unusedSimpArgs false

theorem SegI.kept3 {S : Nat → Prop} {w w' : World} {a : Option Addr} {ts : List Int} (h : SegI w a ts) (hK : Keeps S w w') (hn : ts ≠ [] → ∀ x, a = some x → ¬ S x.block) : SegI w' a ts := by
  by_cases h0 : ts = []
  · exact .inl h0
  · exact h.kept hK (hn h0)
theorem SegR.kept3 {S : Nat → Prop} {w w' : World} {a : Option Addr} {rs : List Rgn} (h : SegR w a rs) (hK : Keeps S w w') (hn : rs ≠ [] → ∀ x, a = some x → ¬ S x.block) : SegR w' a rs := by
  by_cases h0 : rs = []
  · exact .inl h0
  · exact h.kept hK (hn h0)

set_option maxRecDepth 20000 in
set_option maxHeartbeats 8000000 in
theorem back_any2 (kind A B C : Int) (W : Nat) (a2 : Option Addr) (ts : List Int) (c2 : Nat) (a : Option Addr) (rs : List Rgn) (c gt gr : Nat) (w : World)
    (hl2 : ts.length ≤ c2 ∧ c2 ≤ maxLen) (hs2 : SegI w a2 ts) (hl : rs.length ≤ c ∧ c ≤ maxLen) (hs : SegR w a rs) (hb : ts.length + rs.length ≤ 2147483647)
    (ht : Blk w gt (ivs (ts ++ marksI 9)) 3) (hr : Blk w gr (flatR (rs ++ marksR 9)) 54) (hne : gt ≠ gr) (ha2 : ts ≠ [] → ∀ x, a2 = some x → x.block ≠ gt ∧ x.block ≠ gr) (ha : rs ≠ [] → ∀ x, a = some x → x.block ≠ gt ∧ x.block ≠ gr) :
    Calls Try.prog 13 #[.slice (some ⟨gt, 0, none⟩) ts.length (ts.length + 9), .slice (some ⟨gr, 0, none⟩) rs.length (rs.length + 9), opV kind A B C W (.slice a2 ts.length c2) (.slice a rs.length c)] w fun e w' =>
      e = .returned (.bool true) ∧ Backed w w' gt gr ts.length rs.length := by
  obtain ⟨w1, hw1⟩ : ∃ w1, w1 = w.alloc (.cells #[.int .i64 kind, .int .i64 A, .int .i64 B, .int .i64 C, .int .u32 W, .slice a2 ts.length c2, .slice a rs.length c] 31) := ⟨_, rfl⟩
  have k1 : Keeps (fun _ => False) w w1 := by rw [hw1]; exact (Keeps.refl _ w).alloc _
  have b1 : Blk w1 w.heap.size [.int .i64 kind, .int .i64 A, .int .i64 B, .int .i64 C, .int .u32 W, .slice a2 ts.length c2, .slice a rs.length c] 31 := by rw [hw1]; exact Blk.new w _ 31
  have t1 : Blk w1 gt (ivs (overI (ts ++ marksI 9) 0)) 3 := ht.kept k1 fun h => h
  have r1 : Blk w1 gr (flatR (overR (rs ++ marksR 9) 0)) 54 := hr.kept k1 fun h => h
  have hgt := ht.lt
  have hgr := hr.lt
  obtain ⟨L2, hL2⟩ : ∃ L, L = ts.length := ⟨_, rfl⟩
  obtain ⟨L, hL⟩ : ∃ L, L = rs.length := ⟨_, rfl⟩
  rw [← hL2] at hw1 b1 hb hl2 ⊢
  rw [← hL] at hw1 b1 hb hl ⊢
  have q5 := b1.cell (i := 5) rfl
  have q6 := b1.cell (i := 6) rfl
  obtain ⟨H, hH⟩ : ∃ H, H = w.heap.size := ⟨_, rfl⟩
  rw [← hH] at b1 q5 q6 hgt hgr
  have HH : Hid (w1 = w.alloc (.cells #[.int .i64 kind, .int .i64 A, .int .i64 B, .int .i64 C, .int .u32 W, .slice a2 L2 c2, .slice a L c] 31) ∧ H = w.heap.size ∧ L2 = ts.length ∧ L = rs.length) := ⟨hw1, hH, hL2, hL⟩
  have HP : Hid (SegI w a2 ts ∧ SegR w a rs ∧ (ts ≠ [] → ∀ x, a2 = some x → x.block ≠ gt ∧ x.block ≠ gr) ∧ (rs ≠ [] → ∀ x, a = some x → x.block ≠ gt ∧ x.block ≠ gr)) := ⟨hs2, hs, ha2, ha⟩
  have H1 : Hid (Blk w1 H [.int .i64 kind, .int .i64 A, .int .i64 B, .int .i64 C, .int .u32 W, .slice a2 L2 c2, .slice a L c] 31 ∧ Blk w1 gt (ivs (overI (ts ++ marksI 9) 0)) 3 ∧ Blk w1 gr (flatR (overR (rs ++ marksR 9) 0)) 54 ∧ Keeps (fun _ => False) w w1) := ⟨b1, t1, r1, k1⟩
  have hLb : (L2 : Int) + L ≤ 2147483647 := by omega
  have hc2 : (L2 : Int) ≤ c2 := by omega
  have hc3 : (c2 : Int) ≤ 9223372036854775807 := by unfold maxLen at hl2; omega
  have hd2 : (L : Int) ≤ c := by omega
  have hd3 : (c : Int) ≤ 9223372036854775807 := by unfold maxLen at hl; omega
  have hne2 : gr ≠ gt := fun e => hne e.symm
  have n1 : H ≠ gt := by omega
  have n2 : H ≠ gr := by omega
  clear hw1 hH hL2 hL hs2 hs ha2 ha b1 t1 r1 k1 ht hr hb hl2 hl hgt hgr
  go_enter Try.func13, Try.ntmps13
  go_wp2_with fail
  rw [← HH.out.1, ← HH.out.2.1]
  clear q5 q6
  go_loopw [10, 9] (fun i u wr => ∃ j : Nat, j ≤ L2 + 9 ∧ i = .int .i64 j ∧ u = .bool true ∧ Blk wr H [.int .i64 kind, .int .i64 A, .int .i64 B, .int .i64 C, .int .u32 W, .slice a2 L2 c2, .slice a L c] 31 ∧ Blk wr gt (ivs (overI (ts ++ marksI 9) j)) 3 ∧ Blk wr gr (flatR (overR (rs ++ marksR 9) 0)) 54 ∧ Keeps (fun k => k = gt ∨ k = gr) w wr) (fun i _ _ => L2 + 9 - (intOf i).toNat)
  case atStart => exact ⟨0, by omega, rfl, rfl, H1.out.1, H1.out.2.1, H1.out.2.2.1, H1.out.2.2.2.mono fun _ _ h => h.elim⟩
  case round =>
    obtain ⟨j, hj, rfl, rfl, hB, hT, hR, hK⟩ := hrel
    have q5 := hB.cell (i := 5) rfl
    have HJ : Hid (Blk wr H [.int .i64 kind, .int .i64 A, .int .i64 B, .int .i64 C, .int .u32 W, .slice a2 L2 c2, .slice a L c] 31 ∧ Blk wr gt (ivs (overI (ts ++ marksI 9) j)) 3 ∧ Blk wr gr (flatR (overR (rs ++ marksR 9) 0)) 54 ∧ Keeps (fun k => k = gt ∨ k = gr) w wr) := ⟨hB, hT, hR, hK⟩
    by_cases hlt : j < L2 + 9
    · have hlt' : (j : Int) < (L2 : Int) + 9 := by omega
      have hlen : j < (ts ++ marksI 9).length := by rw [List.length_append, marksI_length 9 (by omega), ← HH.out.2.2.1]; exact hlt
      have HF : Hid (∀ (k : Nat), Blk (wr.setCell ⟨gt, j, none⟩ (.int .i64 1)) gt (ivs (overI (ts ++ marksI 9) (j + 1))) 3 ∧ Keeps (· = gt) wr (wr.setCell ⟨gt, j, none⟩ (.int .i64 1))) := fun k => by
        have := HJ.out.2.1.setCell j (.int .i64 1)
        rw [ivs_set, overI_set _ _ hlen] at this
        exact ⟨this, (Keeps.refl (· = gt) wr).setCell _ _ fun _ => rfl⟩
      have zt := hT.frozen j
      by_cases hj2 : j < L2
      · obtain ⟨x, hx⟩ : ∃ x, ts[j]? = some x := ⟨_, List.getElem?_eq_getElem (by have := HH.out.2.2.1; omega)⟩
        have ct := hT.cell (ivs_at _ j x (by rw [overI_get, List.getElem?_append_left (by have := HH.out.2.2.1; omega)]; exact hx))
        obtain ⟨g5, o5, rfl, cx⟩ := (HP.out.1.kept3 hK fun n0 y hy h => by have := HP.out.2.2.1 n0 y hy; rcases h with h | h <;> omega).at hx
        have hj2' : (j : Int) < L2 := by omega
        clear hB hT hR hK hx hlen
        go_wp2_with fail
        go_quiet (fail)
        go_wp2
        go_roundw
        case rel =>
          have hk := (HF.out 0).2.drewN nq
          refine ⟨j + 1, by omega, by go_num, by simp, HJ.out.1.kept hk n1, (HF.out 0).1.drewN nq, HJ.out.2.2.1.kept hk hne2, HJ.out.2.2.2.trans hk fun _ _ h => .inl h⟩
        case measure => simp [intOf]; omega
      · have ct := hT.cell (ivs_at _ j (-77) (by rw [overI_get]; exact marksI_get ts j (by have := HH.out.2.2.1; omega) (by have := HH.out.2.2.1; omega)))
        have hj2' : ¬ (j : Int) < L2 := by omega
        clear hB hT hR hK hlen
        go_wp2
        go_roundw
        case rel =>
          have hk := (HF.out 0).2
          refine ⟨j + 1, by omega, by go_num, by simp, HJ.out.1.kept hk n1, (HF.out 0).1, HJ.out.2.2.1.kept hk hne2, HJ.out.2.2.2.trans hk fun _ _ h => .inl h⟩
        case measure => simp [intOf]; omega
    · obtain rfl : j = L2 + 9 := by omega
      clear hB hT hR hK
      have HE : Hid (overI (ts ++ marksI 9) (L2 + 9) = List.replicate (L2 + 9) 1) := by
        show overI _ _ = _
        unfold overI
        rw [List.drop_of_length_le (by rw [List.length_append, marksI_length 9 (by omega), ← HH.out.2.2.1]; exact Nat.le_refl _), List.append_nil]
      have HJ2 : Hid (Blk wr H [.int .i64 kind, .int .i64 A, .int .i64 B, .int .i64 C, .int .u32 W, .slice a2 L2 c2, .slice a L c] 31 ∧ Blk wr gt (ivs (List.replicate (L2 + 9) 1)) 3 ∧ Blk wr gr (flatR (overR (rs ++ marksR 9) 0)) 54 ∧ Keeps (fun k => k = gt ∨ k = gr) w wr) := by
        have := HJ.out
        rw [HE.out] at this
        exact this
      clear HJ HE q5 hlt hj
      go_wp2
      go_loopw [11, 9] (fun i u wr => ∃ j : Nat, j ≤ L + 9 ∧ i = .int .i64 j ∧ u = .bool true ∧ Blk wr H [.int .i64 kind, .int .i64 A, .int .i64 B, .int .i64 C, .int .u32 W, .slice a2 L2 c2, .slice a L c] 31 ∧ Blk wr gt (ivs (List.replicate (L2 + 9) 1)) 3 ∧ Blk wr gr (flatR (overR (rs ++ marksR 9) j)) 54 ∧ Keeps (fun k => k = gt ∨ k = gr) w wr) (fun i _ _ => L + 9 - (intOf i).toNat)
      case atStart => exact ⟨0, by omega, rfl, rfl, HJ2.out.1, HJ2.out.2.1, HJ2.out.2.2.1, HJ2.out.2.2.2⟩
      case round =>
        obtain ⟨j, hj, rfl, rfl, hB, hT, hR, hK⟩ := hrel
        have q6 := hB.cell (i := 6) rfl
        have HJ : Hid (Blk wr H [.int .i64 kind, .int .i64 A, .int .i64 B, .int .i64 C, .int .u32 W, .slice a2 L2 c2, .slice a L c] 31 ∧ Blk wr gt (ivs (List.replicate (L2 + 9) 1)) 3 ∧ Blk wr gr (flatR (overR (rs ++ marksR 9) j)) 54 ∧ Keeps (fun k => k = gt ∨ k = gr) w wr) := ⟨hB, hT, hR, hK⟩
        by_cases hlt : j < L + 9
        · have hlt' : (j : Int) < (L : Int) + 9 := by omega
          have hlen : j < (rs ++ marksR 9).length := by rw [List.length_append, marksR_length 9 (by omega), ← HH.out.2.2.2]; exact hlt
          have HF : Hid (Blk (setRg wr gr j rg1) gr (flatR (overR (rs ++ marksR 9) (j + 1))) 54 ∧ Keeps (· = gr) wr (setRg wr gr j rg1)) := by
            have := HJ.out.2.2.1.setRgn (i := j) (by rw [overR_length _ _ (by omega)]; exact hlen) rg1
            rw [overR_set _ _ hlen] at this
            exact ⟨this, (Keeps.refl (· = gr) wr).setRgn gr j rg1 fun _ => rfl⟩
          have z0 := hR.frozen (j * 4)
          have z1 := hR.frozen (j * 4 + 1)
          have z2 := hR.frozen (j * 4 + 2)
          have z3 := hR.frozen (j * 4 + 3)
          by_cases hj2 : j < L
          · obtain ⟨x, hx⟩ : ∃ x, rs[j]? = some x := ⟨_, List.getElem?_eq_getElem (by have := HH.out.2.2.2; omega)⟩
            obtain ⟨y0, y1, y2, y3⟩ := hR.rgAt (show (overR (rs ++ marksR 9) j)[j]? = some x by rw [overR_get, List.getElem?_append_left (by have := HH.out.2.2.2; omega)]; exact hx)
            obtain ⟨g5, o5, rfl, x0, x1, x2, x3⟩ := (HP.out.2.1.kept3 hK fun n0 y hy h => by have := HP.out.2.2.2 n0 y hy; rcases h with h | h <;> omega).at hx
            have hj2' : (j : Int) < L := by omega
            clear hB hT hR hK hx hlen
            go_wp2_with fail
            go_quiet (fail)
            go_wp2
            go_roundw
            case rel =>
              have hk := HF.out.2.drewN nq
              refine ⟨j + 1, by omega, by go_num, by simp, HJ.out.1.kept hk n2, HJ.out.2.1.kept hk hne, HF.out.1.drewN nq, HJ.out.2.2.2.trans hk fun _ _ h => .inr h⟩
            case measure => simp [intOf]; omega
          · obtain ⟨y0, y1, y2, y3⟩ := hR.rgAt (show (overR (rs ++ marksR 9) j)[j]? = some (mkR (j - rs.length)) by rw [overR_get]; exact marksR_get rs j (by have := HH.out.2.2.2; omega) (by have := HH.out.2.2.2; omega))
            have hj2' : ¬ (j : Int) < L := by omega
            have hsub : IntKind.i64.wrap ((j : Int) - L) = (j : Int) - L := by rw [IntKind.wrap_i64]; omega
            have hsub2 : ((j - rs.length : Nat) : Int) = (j : Int) - L := by have := HH.out.2.2.2; omega
            unfold mkR at y0 y1 y2 y3
            simp only at y0 y1 y2 y3
            rw [hsub2] at y3
            clear hB hT hR hK hlen hsub2
            go_wp2_with fail
            go_quiet (fail)
            go_wp2
            go_roundw
            case rel =>
              have hk := HF.out.2.drewN nq
              repeat' apply Exists.intro
              refine ⟨?_, rfl⟩
              exact ⟨j + 1, by omega, by go_num, by simp, HJ.out.1.kept hk n2, HJ.out.2.1.kept hk hne, HF.out.1.drewN nq, HJ.out.2.2.2.trans hk fun _ _ h => .inr h⟩
            case measure => simp [intOf]; omega
        · obtain rfl : j = L + 9 := by omega
          have HE : Hid (overR (rs ++ marksR 9) (L + 9) = List.replicate (L + 9) rg1) := by
            show overR _ _ = _
            unfold overR
            rw [List.drop_of_length_le (by rw [List.length_append, marksR_length 9 (by omega), ← HH.out.2.2.2]; exact Nat.le_refl _), List.append_nil]
          clear hB hT hR hK
          go_wp2
          go_ret
          have hh := HJ.out
          rw [HE.out] at hh
          exact ⟨rfl, hh.2.1, hh.2.2.1, hh.2.2.2⟩

open Go.RowKit
set_option linter.unusedVariables false

/-- A call of the script. -/
structure Od where
  k : Int
  A : Int
  B : Int
  C : Int
  W : UInt32
  a2 : Option Addr
  ts : List Int
  c2 : Nat
  a : Option Addr
  rs : List Rgn
  c : Nat
instance : Inhabited Od := ⟨⟨0, 0, 0, 0, 0, none, [], 0, none, [], 0⟩⟩
def Od.cells (x : Od) : Array Value := #[.int .i64 x.k, .int .i64 x.A, .int .i64 x.B, .int .i64 x.C, .int .u32 (x.W.toNat : Int), .slice x.a2 x.ts.length x.c2, .slice x.a x.rs.length x.c]
structure Od.Ok (x : Od) (w : World) : Prop where
  A : I64 x.A
  C : I64 x.C
  l2 : x.ts.length ≤ x.c2 ∧ x.c2 ≤ maxLen
  s2 : SegI w x.a2 x.ts
  l : x.rs.length ≤ x.c ∧ x.c ≤ maxLen
  s : SegR w x.a x.rs
  f : ∀ r ∈ x.rs, r.Fine
def OdAt (w : World) (g o : Nat) (x : Od) : Prop := ∀ i v, x.cells.toList[i]? = some v → w.cell? ⟨g, o + i, none⟩ = some v
theorem OdAt.grown {S : Nat → Prop} {w w' : World} {g o : Nat} {x : Od} (h : OdAt w g o x) (k : Keeps S w w') (hg : ¬ S g) : OdAt w' g o x := fun i v hv => cell_kept (h i v hv) k hg
def SegOd (w : World) (a : Option Addr) (xs : List Od) : Prop := xs = [] ∨ ∃ g o, a = some ⟨g, o, none⟩ ∧ ∀ j x, xs[j]? = some x → OdAt w g (o + j * 7) x
end Go.Proofs.Ytpccdhoaicabcaa
