import Derived.Test.YtpccdhoaicabcaaO
import Derived.Test.YtpccdhoaicabcaaN
import Derived.Handy
namespace Go.Proofs.Ytpccdhoaicabcaa
open Go.RowKit Go.Shelf
attribute [local go_sem] Oper.semAt_some
set_option linter.unusedVariables false

/-- A finder over regions: its box and the regions are there. -/
structure Fd (B : Nat) (a : Option Addr) (rs : List Rgn) (c : Nat) (w : World) : Prop where
  box : w.cell? ⟨B, 0, none⟩ = some (.slice a rs.length c)
  len : rs.length ≤ c ∧ c ≤ maxLen
  seg : SegR w a rs
  ok : ∀ r, r ∈ rs → r.ok
theorem cell_kept {S : Nat → Prop} {w w' : World} {b i : Nat} {v : Value} (h : w.cell? ⟨b, i, none⟩ = some v) (hK : Keeps S w w') (hn : ¬ S b) : w'.cell? ⟨b, i, none⟩ = some v := by
  rw [World.cell?_of_block (w := w) (hK.block b (World.block_lt_of_cell? w ⟨b, i, none⟩ h) hn)]; exact h
theorem Fd.kept {S : Nat → Prop} {B : Nat} {a : Option Addr} {rs : List Rgn} {c : Nat} {w w' : World} (h : Fd B a rs c w) (hK : Keeps S w w') (hB : ¬ S B) (ha : ∀ x, a = some x → ¬ S x.block) : Fd B a rs c w' :=
  ⟨cell_kept h.box hK hB, h.len, h.seg.kept hK ha, h.ok⟩
theorem Fd.grown {B : Nat} {a : Option Addr} {rs : List Rgn} {c : Nat} {w w' : World} (h : Fd B a rs c w) (hK : Keeps (fun _ => False) w w') : Fd B a rs c w' := h.kept hK (fun e => e) fun _ _ e => e

theorem any_take_none {f : Nat → Option (Nat × Nat)} {t i : Nat} : ((List.range (i + 1)).any fun k => (f (t * 16 + k)).isSome) = (((List.range i).any fun k => (f (t * 16 + k)).isSome) || (f (t * 16 + i)).isSome) := by
  rw [List.range_succ, List.any_append]; simp

/-- The first words of a table, over zeros. -/
def rowT (f : Nat → Option (Nat × Nat)) (t i : Nat) : List UInt32 := ((List.range i).map fun k => encO (f (t * 16 + k))) ++ List.replicate (16 - i) 0
theorem rowT_length (f : Nat → Option (Nat × Nat)) (t i : Nat) (h : i ≤ 16) : (rowT f t i).length = 16 := by simp [rowT]; omega
theorem rowT_step (f : Nat → Option (Nat × Nat)) (t i : Nat) (h : i < 16) : (wvs (rowT f t i)).set i (.int .u32 ((encO (f (t * 16 + i))).toNat : Int)) = wvs (rowT f t (i + 1)) := by
  have hl : (wvs ((List.range i).map fun k => encO (f (t * 16 + k)))).length = i := by rw [wvs_length]; simp
  unfold rowT
  rw [wvs_append, List.set_append_right _ _ (by omega), hl, Nat.sub_self, List.range_succ, List.map_append, wvs_append, wvs_append]
  obtain ⟨d, hd⟩ : ∃ d, 16 - i = d + 1 := ⟨16 - i - 1, by omega⟩
  rw [hd, show 16 - (i + 1) = d by omega, List.replicate_succ]
  simp [wvs]
theorem rowT_same (f : Nat → Option (Nat × Nat)) (t i : Nat) (h : i < 16) (hn : f (t * 16 + i) = none) : rowT f t (i + 1) = rowT f t i := by
  unfold rowT
  obtain ⟨d, hd⟩ : ∃ d, 16 - i = d + 1 := ⟨16 - i - 1, by omega⟩
  rw [hd, show 16 - (i + 1) = d by omega, List.replicate_succ, List.range_succ, List.map_append]
  simp [hn, encO]
theorem rowT_full (f : Nat → Option (Nat × Nat)) (t : Nat) : rowT f t 16 = rowL f t := by simp [rowT, rowL]

set_option maxRecDepth 20000 in
set_option maxHeartbeats 4000000 in
theorem tableOf_any (B : Nat) (a : Option Addr) (rs : List Rgn) (c t : Nat) (w : World) (h : Fd B a rs c w) (ht : t < 16) :
    Calls Try.prog 69 #[.func (.func 63) #[] #[.pointer (some ⟨B, 0, none⟩)], .int .i64 t] w fun e w' =>
      e = .returned (.tuple #[.slice (some ⟨w.heap.size, 0, none⟩) 16 16, .bool (needB (findL rs) t)]) ∧ Blk w' w.heap.size (wvs (rowL (findL rs) t)) 27 ∧ Keeps (fun _ => False) w w' := by
  have hmk := run_make_words (w := w) 16 (by omega)
  obtain ⟨W1, hW⟩ : ∃ W1, W1 = w.alloc (.cells (wvs (List.replicate 16 0)).toArray 27) := ⟨_, rfl⟩
  rw [← hW] at hmk
  have hK1 : Keeps (fun _ => False) w W1 := by rw [hW]; exact (Keeps.refl _ w).alloc _
  have hB1 : Blk W1 w.heap.size (wvs (rowT (findL rs) t 0)) 27 := by rw [hW]; exact Blk.new w _ 27
  have HM : Hid (_ = _) := hmk
  have H1 : Hid (Keeps (fun _ => False) w W1 ∧ Blk W1 w.heap.size (wvs (rowT (findL rs) t 0)) 27 ∧ Fd B a rs c w) := ⟨hK1, hB1, h⟩
  have ht' : (t : Int) < 16 := by omega
  clear hmk hW hK1 hB1 h ht
  go_enter Try.func69, Try.ntmps69
  go_wp2_with (at_make; refine wpList_make_run rfl (.const (.int .i64 16)) (.const (.int .i64 16)) 33 rfl (.int .i64 ((16 : Nat) : Int)) (.int .i64 ((16 : Nat) : Int)) (.slice (some ⟨w.heap.size, 0, none⟩) 16 16) W1 rfl rfl HM.out ?_; refine Hid.out ?_)
  unfold Hid
  go_wp2
  go_loopw [12, 5] (fun i u wr => ∃ j : Nat, j ≤ 16 ∧ i = .int .i64 j ∧ u = .bool ((List.range j).any fun k => (findL rs (t * 16 + k)).isSome) ∧ Blk wr w.heap.size (wvs (rowT (findL rs) t j)) 27 ∧ Keeps (fun _ => False) w wr) (fun i _ _ => 16 - (intOf i).toNat)
  case atStart => exact ⟨0, by omega, rfl, rfl, H1.out.2.1, H1.out.1⟩
  case round =>
    obtain ⟨j, hj, rfl, rfl, hBr, hK⟩ := hrel
    have HJ : Hid (Blk wr w.heap.size (wvs (rowT (findL rs) t j)) 27 ∧ Keeps (fun _ => False) w wr) := ⟨hBr, hK⟩
    by_cases hlt : j < 16
    · have hF := H1.out.2.2.grown hK
      have hjl : (j : Int) < 16 := by omega
      have HC := stand_any B a rs c (t * 16 + j) wr hF.box hF.len hF.seg hF.ok (by omega)
      rw [show ((t * 16 + j : Nat) : Int) = (t : Int) * 16 + j by omega] at HC
      have HC : Hid (Calls _ _ _ _ _) := HC
      obtain ⟨A, hA⟩ : ∃ A, A = (List.range j).any fun k => (findL rs (t * 16 + k)).isSome := ⟨_, rfl⟩
      rw [← hA]
      have HA : Hid (A = _) := hA
      clear hA hBr hK hF
      cases hf : findL rs (t * 16 + j) with
      | none =>
        rw [hf] at HC
        have HN : Hid (findL rs (t * 16 + j) = none) := hf
        clear hf
        go_wp2_with fail
        refine HC.out.mono ?_
        rintro e w1 ⟨rfl, hK1⟩
        have HK1 : Hid (Keeps (fun _ => False) wr w1) := hK1
        clear hK1 HC
        go_wp2
        go_roundw
        case rel =>
          refine ⟨j + 1, by omega, by go_num, ?_, ?_, (HJ.out.2.trans HK1.out fun _ _ h => h).alloc _⟩
          · rw [any_take_none, HN.out, ← HA.out]; simp
          · rw [rowT_same _ _ _ hlt HN.out]; exact (HJ.out.1.kept HK1.out fun h => h).alloc _
        case measure => simp [intOf]; omega
      | some x =>
        rw [hf] at HC
        have HN : Hid (findL rs (t * 16 + j) = some x) := hf
        have hfit := findL_fit H1.out.2.2.ok _ x hf
        have HE := fun w => encode_in x.1 x.2 w hfit.1 hfit.2
        have HE : Hid (∀ w, Calls _ _ _ w _) := HE
        obtain ⟨X, hX⟩ : ∃ X, X = x.1 := ⟨_, rfl⟩
        obtain ⟨Y, hY⟩ : ∃ X, X = x.2 := ⟨_, rfl⟩
        obtain ⟨Z, hZ⟩ : ∃ Z, Z = (enc x.1 x.2).toNat := ⟨_, rfl⟩
        have HZ : Hid (Z = (encO (findL rs (t * 16 + j))).toNat) := by rw [hf]; exact hZ
        have hv : (leafO (t * 16 + j) (some x)).v = .agg #[.int .i64 ((t * 16 + j : Nat) : Int), .int .i64 X, .int .i64 Y] := by rw [hX, hY]; rfl
        rw [← hZ, ← hX, ← hY] at HE
        rw [hv] at HC
        clear hf hfit hX hY hZ hv
        go_wp2_with fail
        refine HC.out.mono ?_
        rintro e w1 ⟨rfl, hK1⟩
        have hB1 := HJ.out.1.kept hK1 fun h => h
        have hol : j < (rowT (findL rs) t j).length := by rw [rowT_length _ _ _ (by omega)]; exact hlt
        have hBa : Blk (w1.alloc (.cells #[.int .i64 ((t * 16 + j : Nat) : Int), .int .i64 X, .int .i64 Y] 51)) w.heap.size (wvs (rowT (findL rs) t j)) 27 := hB1.alloc _
        have hKa : Keeps (fun _ => False) w (w1.alloc (.cells #[.int .i64 ((t * 16 + j : Nat) : Int), .int .i64 X, .int .i64 Y] 51)) := (HJ.out.2.trans hK1 fun _ _ h => h).alloc _
        have cw := hB1.cell (wvs_get _ j hol)
        have zw := hB1.frozen j
        obtain ⟨v0, hv0⟩ : ∃ v0 : Nat, v0 = ((rowT (findL rs) t j)[j]'hol).toNat := ⟨_, rfl⟩
        rw [← hv0] at cw
        have hsz := hB1.lt
        have HR : Hid (Blk w1 w.heap.size (wvs (rowT (findL rs) t j)) 27 ∧ Keeps (fun _ => False) w w1) := ⟨hB1, HJ.out.2.trans hK1 fun _ _ h => h⟩
        have hst : Hid (_ = _) := rowT_step (findL rs) t j hlt
        clear hK1 HC hB1 hol hv0 hBa hKa
        go_wp2_with fail
        refine (HE.out _).mono ?_
        rintro e w2 ⟨rfl, hw⟩
        obtain rfl := hw.symm
        clear hw
        go_wp2
        go_roundw
        case rel =>
          refine ⟨j + 1, by omega, by go_num, ?_, ?_, ?_⟩
          · rw [any_take_none, HN.out]; simp
          · rw [← hst.out, ← HZ.out]; exact (HR.out.1.setCell j _).alloc _
          · exact (HR.out.2.setCell _ _ fun e => absurd e (Nat.lt_irrefl _)).alloc _
        case measure => simp [intOf]; omega
    · obtain rfl : j = 16 := by omega
      go_wp2
      go_ret2
      have := HJ.out.1
      rw [rowT_full] at this
      exact ⟨rfl, this, HJ.out.2⟩

theorem needed_any (f : Value) (w : World) (hf : ∃ F l, f = .func F #[] l) :
    Calls Try.prog 57 #[f] w fun e w' => e = .returned (.func (.func 68) #[] #[.pointer (some ⟨w.heap.size, 0, none⟩)]) ∧ Blk w' w.heap.size [f] 87 ∧ Keeps (fun _ => False) w w' := by
  obtain ⟨F, l, rfl⟩ := hf
  go_enter Try.func57, Try.ntmps57
  go_wp2
  go_ret
  exact ⟨rfl, Blk.new w _ 87, (Keeps.refl _ w).alloc _⟩

theorem standing_any (a : Option Addr) (n c : Nat) (w : World) :
    Calls Try.prog 37 #[.slice a n c] w fun e w' => e = .returned (.func (.func 63) #[] #[.pointer (some ⟨w.heap.size, 0, none⟩)]) ∧ Blk w' w.heap.size [.slice a n c] 29 ∧ Keeps (fun _ => False) w w' := by
  go_enter Try.func37, Try.ntmps37
  go_wp2
  go_ret
  exact ⟨rfl, Blk.new w _ 29, (Keeps.refl _ w).alloc _⟩

/-- The iterator of needed: what it needs, where it passes, what it tells (a sixteen, and the block of its words). -/
structure OnT (B1 B : Nat) (a : Option Addr) (rs : List Rgn) (c : Nat) (W : World) : Prop where
  p1 : W.cell? ⟨B1, 0, none⟩ = some (.func (.func 63) #[] #[.pointer (some ⟨B, 0, none⟩)])
  fd : Fd B a rs c W
def SkipT (rs : List Rgn) (s s' : Nat) (W : World) : Prop := s' = s + 1 ∧ s < 16 ∧ needB (findL rs) s = false
def TellT (lo : Nat) (rs : List Rgn) (s : Nat) (x : Nat × Nat) (W : World) : Prop := x.1 = s ∧ s < 16 ∧ needB (findL rs) s = true ∧ lo ≤ x.2 ∧ Blk W x.2 (wvs (rowL (findL rs) s)) 27
def encT (x : Nat × Nat) : Array Value := #[.int .i64 x.1, .slice (some ⟨x.2, 0, none⟩) 16 16]

set_option maxRecDepth 20000 in
set_option maxHeartbeats 4000000 in
theorem needed_tells (k lo : Nat) (B1 B : Nat) (a : Option Addr) (rs : List Rgn) (c : Nat) :
    Tells Fence.wide k Try.prog 68 #[.pointer (some ⟨B1, 0, none⟩)] encT (fun _ W => OnT B1 B a rs c W ∧ lo ≤ W.heap.size) (SkipT rs) (TellT lo rs) (fun s _ => s + 1) (fun s => s = 16) 0 := by
  intro l J Jx W hgood hskip hkeep hyield h0
  have HG : Hid (∀ s W, J s W → OnT B1 B a rs c W ∧ lo ≤ W.heap.size) := hgood
  have HS : Hid (∀ s s' W, J s W → SkipT rs s s' W → J s' W) := hskip
  have HD : Hid (∀ s W W', J s W → Keeps (fun _ => False) W W' → J s W') := hkeep
  have HY : Hid (∀ s x W, J s W → TellT lo rs s x W → YieldAt Fence.wide (k - 1) Try.prog l (encT x) W fun e W' => (e = .returned (.bool true) ∧ J (s + 1) W') ∨ (e = .returned (.bool false) ∧ Jx W')) := hyield
  have HJ : Hid (J 0 W) := h0
  clear hgood hskip hkeep hyield h0
  refine callsIn_of_wp Try.func68 rfl trivial ?_ rfl
  refine wpIn_wide.2 ?_
  simp only [Try.ntmps68, List.size_toArray, List.length_cons, List.length_nil, Nat.reduceAdd, Nat.reduceSub, Array.replicate_succ, Array.replicate_zero, List.push_toArray, List.append_toArray, List.nil_append, List.cons_append]
  go_wp2
  refine (wpIn_wide (n := k)).1 ?_
  gi_loopw [6] (fun i wr => ∃ s : Nat, s ≤ 16 ∧ i = .int .i64 s ∧ J s wr) (fun i _ => 16 - (intOf i).toNat)
  case atStart => exact ⟨0, by omega, rfl, HJ.out⟩
  case round =>
    obtain ⟨s, hs, rfl, hJ⟩ := hrel
    have HJs : Hid (J s wr) := hJ
    by_cases hlt : s < 16
    · have hg := HG.out s wr hJ
      have p1 := hg.1.p1
      have hlt' : (s : Int) < 16 := by omega
      have HC := tableOf_any B a rs c s wr hg.1.fd hlt
      have HLo : Hid (lo ≤ wr.heap.size) := hg.2
      clear hg hJ
      cases hU : needB (findL rs) s
      · rw [hU] at HC
        have HC : Hid (Calls _ _ _ wr _) := HC
        have HU : Hid (needB (findL rs) s = false) := hU
        clear hU
        gi_wp2_with fail
        refine ⟨trivial, fun h => by simp [Fence.wide] at h, ?_⟩
        refine (callsIn_wide.2 HC.out).mono ?_
        rintro e w2 ⟨rfl, hb, hk⟩
        have HK2 : Hid (Keeps (fun _ => False) wr w2) := hk
        clear hk HC p1 hb
        gi_wp2
        refine ⟨fun _ h => (by cases h), ?_⟩
        gi_wp2
        go_roundw
        case rel => exact ⟨s + 1, by omega, by go_num, HS.out s _ _ (HD.out _ _ _ HJs.out HK2.out) ⟨rfl, hlt, HU.out⟩⟩
        case measure => simp [intOf]; omega
      · rw [hU] at HC
        have HC : Hid (Calls _ _ _ wr _) := HC
        have HU : Hid (needB (findL rs) s = true) := hU
        clear hU
        gi_wp2_with fail
        refine ⟨trivial, fun h => by simp [Fence.wide] at h, ?_⟩
        refine (callsIn_wide.2 HC.out).mono ?_
        rintro e w2 ⟨rfl, hb, hk⟩
        have hT : TellT lo rs s (s, wr.heap.size) w2 := ⟨rfl, hlt, HU.out, HLo.out, hb⟩
        obtain ⟨fn, tmps, assign, body, hy, hR⟩ := HY.out s (s, wr.heap.size) w2 (HD.out _ _ _ HJs.out hk) hT
        unfold encT at hy
        have HR : Hid (RoundIn _ _ _ _ _ _ _ _ _ _) := hR
        clear hR hT hk hb HC p1
        gi_wp2_with fail
        refine ⟨fun h => by simp [Fence.wide] at h, ?_⟩
        refine HR.out.mono ?_
        rintro e W3 (⟨rfl, hJ3⟩ | ⟨rfl, hJx3⟩)
        · have HJ3 : Hid (J (s + 1) W3) := hJ3
          clear hJ3 hy HR
          gi_wp2
          go_roundw
          case rel => exact ⟨s + 1, by omega, by go_num, HJ3.out⟩
          case measure => simp [intOf]; omega
        · have HJ3 : Hid (Jx W3) := hJx3
          clear hJx3 hy HR
          gi_wp2
          refine bodyPost_ret (results_none rfl _ _ _) rfl ?_
          exact ⟨⟨_, rfl⟩, .inr HJ3.out⟩
    · obtain rfl : s = 16 := by omega
      gi_wp2
      go_end0
      exact ⟨⟨_, rfl⟩, .inl ⟨_, rfl, HJs.out⟩⟩

end Go.Proofs.Ytpccdhoaicabcaa
