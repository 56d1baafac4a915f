import Derived.Test.YtekijhhpldnmnaaWa
namespace Go.Proofs.Ytekijhhpldnmnaa
open Go.RowKit
set_option linter.unusedVariables false
set_option linter.unusedSimpArgs false

def flatR (n d : Nat) (rs : List Rr) : List Value := rs.flatMap (Rr.vs n d)
theorem flatR_length (n d : Nat) (rs : List Rr) : (flatR n d rs).length = rs.length * 5 := by
  induction rs with
  | nil => rfl
  | cons b bs ih => rw [flatR, List.flatMap_cons, List.length_append, show (bs.flatMap (Rr.vs n d)).length = bs.length * 5 from ih, List.length_cons]; show 5 + _ = _; omega
theorem flatR_get {n d : Nat} {rs : List Rr} {j : Nat} {b : Rr} (h : rs[j]? = some b) {r : Nat} {u : Value} (hu : (b.vs n d)[r]? = some u) : (flatR n d rs)[j * 5 + r]? = some u := by
  have hr : r < 5 := (List.getElem?_eq_some_iff.1 hu).1
  induction rs generalizing j with
  | nil => simp at h
  | cons c bs ih =>
    have e : flatR n d (c :: bs) = c.vs n d ++ flatR n d bs := rfl
    have hc : (c.vs n d).length = 5 := rfl
    rw [e]
    cases j with
    | zero =>
      simp at h
      subst h
      rw [List.getElem?_append_left (by omega), Nat.zero_mul, Nat.zero_add]; exact hu
    | succ j =>
      rw [List.getElem?_append_right (by omega), hc, show (j + 1) * 5 + r - 5 = j * 5 + r by omega]
      exact ih (by simpa using h)
theorem segR_of_owns {w : World} {v : Value} {n d : Nat} {rs : List Rr} (h : w.ownsRow 0 75 5 v rs.length (flatR n d rs)) : ∃ a c, v = .slice a rs.length c ∧ SegR w a n d rs ∧ ∀ x, a = some x → v.ownBlock = some x.block := by
  have hcl := fun g hg => h.cells (g := g) hg
  rcases h.2 with ⟨rfl, h0⟩ | ⟨g, cap, cur, rfl, _⟩
  · exact ⟨none, 0, by rw [h0], .inl (List.eq_nil_of_length_eq_zero h0), fun x e => by cases e⟩
  · refine ⟨_, cap, rfl, .inr ⟨g, 0, rfl, fun j b hb => ?_⟩, fun x e => by cases e; rfl⟩
    have q : ∀ r u, (b.vs n d)[r]? = some u → w.cell? ⟨g, 0 + j * 5 + r, none⟩ = some u := fun r u hu => by
      have := hcl g rfl _ _ (flatR_get hb hu)
      rw [addr_add] at this
      rw [Nat.add_assoc]
      exact this
    exact ⟨q 0 _ rfl, q 1 _ rfl, q 2 _ rfl, q 3 _ rfl, q 4 _ rfl⟩
theorem owns_lt {w : World} {e : TypeId} {size n : Nat} {v : Value} {vs : List Value} (h : w.ownsRow 0 e size v n vs) : ∀ k, v.ownBlock = some k → k < w.heap.size := by
  intro k hk
  rcases h.2 with ⟨rfl, _⟩ | ⟨g, cap, cur, rfl, _, hg, _⟩
  · cases hk
  · cases hk; exact (Array.getElem?_eq_some_iff.1 hg).1

theorem Try.info75 : (Try.prog.info? 75).map (fun i => (i.zero, i.size, i.bytes)) = some (some (.agg #[.int .i64 0, .int .i64 0, .int .i64 0, .int .i64 0, .slice none 0 0]), 5, 56) := by kernel_rfl

/-- append of one row. -/
theorem append_row {w : World} (n d : Nat) (x : Rr) (v : Value) (m : Nat) (vs : List Value) (hown : w.ownsRow 0 75 5 v m vs) (hn : m ≤ 100) :
    ∃ v' W', (∀ ty, (Builtin.append_ #[81, 81] ty #[v, .slice (some ⟨w.heap.size, 0, none⟩) 1 1]).run Try.prog (w.alloc (.cells (x.vs n d).toArray 75)) = .ok v' W') ∧ W'.ownsRow 0 75 5 v' (m + 1) (vs ++ x.vs n d) ∧
      (v'.ownBlock = v.ownBlock ∨ ∃ k, v'.ownBlock = some k ∧ w.heap.size ≤ k) ∧ Keeps (fun k => some k = v.ownBlock) w W' := by
  obtain ⟨i0, hi, hz0, hz1, hz2⟩ := info_parts Try.info75
  exact append_new 81 75 i0 _ 5 56 Try.underlying81 hi hz0 hz1 hz2 rfl (by omega) v m vs hown (x.vs n d).toArray rfl (by intro u hu; simp [Rr.vs] at hu; rcases hu with rfl | rfl | rfl | rfl | rfl <;> rfl) (by unfold maxLen; omega) (by omega)

/-- While ports are taken out. -/
structure TpI (w wr : World) (v : Value) (xs : List UInt32) (n d : Nat) (ports : List Int) (rs : List Rr) : Prop where
  own : wr.ownsRow 0 75 5 v rs.length (flatR n d rs)
  each : ∀ (i : Nat) (r : Rr), rs[i]? = some r → r.h = 3 ∧ (∃ q, ports[i]? = some q ∧ 0 ≤ q ∧ q + (rsz 3 n d : Int) ≤ xs.length ∧ r.p = q.toNat ∧ r.l = win xs q.toNat (rsz 3 n d)) ∧ Rb wr r.G 3 n d r.l ∧ w.heap.size ≤ r.G ∧ ∀ k, v.ownBlock = some k → k ≠ r.G
  dist : ∀ (i k : Nat) (r s : Rr), rs[i]? = some r → rs[k]? = some s → i ≠ k → r.G ≠ s.G
  new : ∀ k, v.ownBlock = some k → w.heap.size ≤ k
  k : Keeps (fun _ => False) w wr

theorem TpI.step {w wr w2 W3 : World} {v : Value} {xs : List UInt32} {n d : Nat} {ports : List Int} {rs : List Rr} (h : TpI w wr v xs n d ports rs) (hl : rs.length ≤ 100) (q : Int) (hq : ports[rs.length]? = some q) (q0 : 0 ≤ q) (q1 : q + (rsz 3 n d : Int) ≤ xs.length)
    (G : Nat) (hG : wr.heap.size ≤ G) (hR : Rb w2 G 3 n d (win xs q.toNat (rsz 3 n d))) (k2 : Keeps (fun _ => False) wr w2) (k3 : Keeps (fun _ => False) w2 W3) :
    ∃ v' W', (∀ ty, (Builtin.append_ #[81, 81] ty #[v, .slice (some ⟨W3.heap.size, 0, none⟩) 1 1]).run Try.prog (W3.alloc (.cells ((⟨q.toNat, 3, G, win xs q.toNat (rsz 3 n d)⟩ : Rr).vs n d).toArray 75)) = .ok v' W') ∧ TpI w W' v' xs n d ports (rs ++ [⟨q.toNat, 3, G, win xs q.toNat (rsz 3 n d)⟩]) := by
  have k23 : Keeps (fun _ => False) wr W3 := k2.trans k3 fun _ _ e => e
  have ho := owns_kept h.own k23 (fun _ _ e => e)
  obtain ⟨v', W', hr, hown, hf, hK⟩ := append_row n d ⟨q.toNat, 3, G, win xs q.toNat (rsz 3 n d)⟩ v rs.length _ ho hl
  have hvl := owns_lt h.own
  have hGl := hR.blk.lt
  have hs2 := k2.size
  have hs3 := k3.size
  refine ⟨v', W', hr, ?_, ?_, ?_, ?_, ?_⟩
  · rw [List.length_append]
    have e : flatR n d (rs ++ [⟨q.toNat, 3, G, win xs q.toNat (rsz 3 n d)⟩]) = flatR n d rs ++ (⟨q.toNat, 3, G, win xs q.toNat (rsz 3 n d)⟩ : Rr).vs n d := by
      unfold flatR; rw [List.flatMap_append]; simp
    rw [e]; exact hown
  · intro i r hi
    have hold : ∀ g, g < w2.heap.size → (∀ k, v.ownBlock = some k → k ≠ g) → ∀ k, v'.ownBlock = some k → k ≠ g := fun g hg hv k hk => by
      rcases hf with e | ⟨z, e, hz⟩
      · exact hv k (by rw [← e]; exact hk)
      · rw [e] at hk; cases hk; omega
    by_cases hlt : i < rs.length
    · rw [List.getElem?_append_left hlt] at hi
      obtain ⟨e1, e2, e3, e4, e5⟩ := h.each i r hi
      exact ⟨e1, e2, (e3.grown k23).kept hK (fun e => e5 r.G e.symm rfl), e4, hold r.G (by have := e3.blk.lt; omega) e5⟩
    · have hi2 : i = rs.length := by
        have := (List.getElem?_eq_some_iff.1 hi).1
        simp at this; omega
      subst hi2
      rw [List.getElem?_append_right (Nat.le_refl _), Nat.sub_self] at hi
      cases hi
      have hvG : ∀ k, v.ownBlock = some k → k ≠ G := fun k hk => by have := hvl k hk; omega
      exact ⟨rfl, ⟨q, hq, q0, q1, rfl, rfl⟩, (hR.grown k3).kept hK (fun e => hvG G e.symm rfl), by have := h.k.size; show w.heap.size ≤ G; omega, hold G hGl hvG⟩
  · intro i k r s hi hk hne
    have hb : ∀ (i : Nat) (r : Rr), i < rs.length → rs[i]? = some r → r.G ≠ G := fun i r hlt hi => by
      have := (h.each i r hi).2.2.1.blk.lt; omega
    by_cases hlt : i < rs.length
    · rw [List.getElem?_append_left hlt] at hi
      by_cases hlt2 : k < rs.length
      · rw [List.getElem?_append_left hlt2] at hk
        exact h.dist i k r s hi hk hne
      · have hk2 : k = rs.length := by have := (List.getElem?_eq_some_iff.1 hk).1; simp at this; omega
        subst hk2
        rw [List.getElem?_append_right (Nat.le_refl _), Nat.sub_self] at hk
        cases hk
        exact hb i r hlt hi
    · have hi2 : i = rs.length := by have := (List.getElem?_eq_some_iff.1 hi).1; simp at this; omega
      subst hi2
      rw [List.getElem?_append_right (Nat.le_refl _), Nat.sub_self] at hi
      cases hi
      have hlt2 : k < rs.length := by have := (List.getElem?_eq_some_iff.1 hk).1; simp at this; omega
      rw [List.getElem?_append_left hlt2] at hk
      exact fun e => hb k s hlt2 hk e.symm
  · intro k hk
    rcases hf with e | ⟨z, e, hz⟩
    · exact h.new k (by rw [← e]; exact hk)
    · rw [e] at hk; cases hk; have := h.k.size; omega
  · exact (h.k.trans k23 fun _ _ e => e).trans hK fun b hb e => by have := h.new b e.symm; omega

/-- Behind takePorts. -/
def TpP (w : World) (xs : List UInt32) (n d : Nat) (ports : List Int) (e : Ending) (w' : World) : Prop :=
  ((∀ q ∈ ports, 0 ≤ q ∧ q + (rsz 3 n d : Int) ≤ xs.length) ∧ ∃ v rs, rs.length = ports.length ∧ e = .returned (.tuple #[v, .int .i64 0]) ∧ TpI w w' v xs n d ports rs) ∨
  (¬ (∀ q ∈ ports, 0 ≤ q ∧ q + (rsz 3 n d : Int) ≤ xs.length) ∧ e = .returned (.tuple #[.slice none 0 0, .int .i64 51]) ∧ Keeps (fun _ => False) w w')

set_option maxRecDepth 20000 in
set_option maxHeartbeats 2000000 in
theorem takePorts_any (b g : Nat) (xs : List UInt32) (n d : Nat) (a : Option Addr) (c : Nat) (ports : List Int) (w : World) (hm : Mm w b g xs) (he : fitE false n d = 0) (hs : SegI w a ports) (hl : ports.length ≤ 100) (hpp : ∀ q ∈ ports, q ≤ 9223372036854775807) :
    Calls Try.prog 45 #[.pointer (some ⟨b, 0, none⟩), .int .i64 n, .int .i64 d, .slice a ports.length c] w fun e w' => TpP w xs n d ports e w' := by
  obtain ⟨L, hL⟩ : ∃ L, L = ports.length := ⟨_, rfl⟩
  have HS : Hid (SegI w a ports ∧ L = ports.length ∧ (∀ q ∈ ports, q ≤ 9223372036854775807) ∧ Mm w b g xs ∧ fitE false n d = 0) := ⟨hs, hL, hpp, hm, he⟩
  rw [← hL] at hl ⊢
  have hl2 : (L : Int) ≤ 100 := by omega
  clear hs hL hpp hm he
  go_enter Try.func45, Try.ntmps45
  go_wp2
  go_loopw [10, 17] (fun v i wr => ∃ (j : Nat) (rs : List Rr), j ≤ L ∧ i = .int .i64 j ∧ rs.length = j ∧ TpI w wr v xs n d ports rs ∧ ∀ i, i < j → ∀ q, ports[i]? = some q → 0 ≤ q ∧ q + (rsz 3 n d : Int) ≤ xs.length) (fun _ i _ => L - (intOf i).toNat)
  case atStart =>
    refine ⟨0, [], by omega, rfl, rfl, ⟨⟨rfl, .inl ⟨rfl, rfl⟩⟩, fun i r hi => (by simp at hi), fun i k r s hi => (by simp at hi), fun k hk => (by cases hk), Keeps.refl _ _⟩, fun i hi => absurd hi (by omega)⟩
  case round =>
    obtain ⟨j, rs, hj, rfl, hrs, hT, hq⟩ := hrel
    by_cases hlt : j < L
    · have hjx : j < ports.length := by rw [← HS.out.2.1]; exact hlt
      have hlt' : (j : Int) < L := by omega
      rcases HS.out.1.kept hT.k (fun _ _ e => e) with h0 | ⟨g1, o1, rfl, hc1⟩
      · rw [h0] at hjx; simp at hjx
      have d1 := hc1 j hjx
      have hpj : ports[j]? = some (ports[j]'hjx) := List.getElem?_eq_getElem hjx
      obtain ⟨q, hqe⟩ : ∃ q, q = ports[j]'hjx := ⟨_, rfl⟩
      rw [← hqe] at d1 hpj
      have hqm := HS.out.2.2.1 q (List.mem_of_getElem? hpj)
      have hMr := HS.out.2.2.2.1.kept hT.k (fun e => e) (fun e => e)
      obtain ⟨av, cv, hav, _, _⟩ := segR_of_owns hT.own
      subst hav
      by_cases hfit : 0 ≤ q ∧ q + (rsz 3 n d : Int) ≤ xs.length
      · obtain ⟨q', rfl⟩ : ∃ k : Nat, q = k := ⟨q.toNat, by omega⟩
        have HC : Hid (Calls Try.prog 44 #[.pointer (some ⟨b, 0, none⟩), .int .i64 q', .int .i64 3, .int .i64 n, .int .i64 d] wr fun e w' => ∃ G, wr.heap.size ≤ G ∧ e = .returned (.tuple #[.agg #[.int .i64 q', .int .i64 3, .int .i64 n, .int .i64 d, .slice (some ⟨G, 0, none⟩) (rsz 3 n d) (rsz 3 n d)], .int .i64 0]) ∧ Rb w' G 3 n d (win xs q' (rsz 3 n d)) ∧ Keeps (fun _ => False) wr w') := take_ok b g xs q' 3 n d wr hMr (.inr rfl) HS.out.2.2.2.2 (by omega)
        have hT2 := hT
        rw [hrs] at hT2
        have HT : Hid (TpI w wr (.slice av j cv) xs n d ports rs ∧ rs.length = j ∧ ports[rs.length]? = some (q' : Int) ∧ (0 ≤ (q' : Int) ∧ (q' : Int) + (rsz 3 n d : Int) ≤ xs.length) ∧ (∀ i, i < j → ∀ q, ports[i]? = some q → 0 ≤ q ∧ q + (rsz 3 n d : Int) ≤ xs.length) ∧ (win xs q' (rsz 3 n d)).length = rsz 3 n d) := ⟨hT2, hrs, by rw [hrs]; exact hpj, hfit, hq, win_length _ _ _ (by omega)⟩
        rw [hrs]
        clear hT hT2 hq hfit hpj hqm hMr hc1 hqe hjx hj hrs
        obtain ⟨M, hM⟩ : ∃ M, M = rsz 3 n d := ⟨_, rfl⟩
        rw [← hM] at HC
        have HMM : Hid (M = rsz 3 n d) := hM
        clear hM
        go_wp2_with fail
        refine HC.out.mono ?_
        rintro e w2 ⟨G, hG, rfl, hR, hk2⟩
        obtain ⟨W3, hW3⟩ : ∃ W3, W3 = w2.alloc (.cells #[.int .i64 q', .int .i64 3, .int .i64 n, .int .i64 d, .slice (some ⟨G, 0, none⟩) M M] 75) := ⟨_, rfl⟩
        have hk3 : Keeps (fun _ => False) w2 W3 := by rw [hW3]; exact (Keeps.refl _ w2).alloc _
        obtain ⟨v', W', hrun, hT'⟩ := HT.out.1.step (W3 := W3) (by have := HT.out.2.1; omega) q' HT.out.2.2.1 HT.out.2.2.2.1.1 HT.out.2.2.2.1.2 G hG (by rw [Int.toNat_natCast, ← HMM.out]; exact hR) hk2 hk3
        have hsz3 : W3.heap.size = w2.heap.size + 1 := by rw [hW3]; simp
        have hvs : ((⟨(q' : Int).toNat, 3, G, win xs (q' : Int).toNat (rsz 3 n d)⟩ : Rr).vs n d).toArray = #[.int .i64 q', .int .i64 3, .int .i64 n, .int .i64 d, .slice (some ⟨G, 0, none⟩) M M] := by
          unfold Rr.vs
          simp only [Int.toNat_natCast]
          rw [HT.out.2.2.2.2.2, ← HMM.out]
          rfl
        rw [hvs, hsz3, hW3] at hrun
        have HAP : Hid (∀ ty, _) := hrun
        have HT' : Hid (TpI w W' v' xs n d ports (rs ++ [⟨(q' : Int).toNat, 3, G, win xs (q' : Int).toNat (rsz 3 n d)⟩])) := hT'
        clear hW3 hk3 hrun hT' hG hR hk2 HC hsz3 hvs
        go_wp2_with (at_builtin; go_must (refine wpList_append_run rfl _ _ 81 81 rfl (.slice av j cv) (.slice (some ⟨w2.heap.size + 1, 0, none⟩) 1 1) v' W' rfl rfl HAP.out ?_))
        go_roundw
        case rel =>
          refine ⟨j + 1, _, by omega, by go_num, by rw [List.length_append, HT.out.2.1]; rfl, HT'.out, all_step HT.out.2.2.2.2.1 fun q hq => ?_⟩
          have h5 := HT.out.2.2.1
          rw [HT.out.2.1] at h5
          rw [h5] at hq
          cases hq
          exact HT.out.2.2.2.1
        case measure => simp [intOf]; omega
      · have hte : tkE false xs.length q 3 n d = 51 := by
          unfold tkE
          rw [if_neg (fun e => e HS.out.2.2.2.2), if_neg hfit]
        have HC : Hid (Calls Try.prog 44 #[.pointer (some ⟨b, 0, none⟩), .int .i64 q, .int .i64 3, .int .i64 n, .int .i64 d] wr fun e w' => e = .returned (.tuple #[rw0, .int .i64 51]) ∧ Keeps (fun _ => False) wr w') := by
          have := take_no false b g xs q 3 n d wr (fun _ => hMr) (by omega) hqm (by rw [hte]; omega)
          rw [hte] at this
          exact this
        have HF : Hid (¬ (∀ q ∈ ports, 0 ≤ q ∧ q + (rsz 3 n d : Int) ≤ xs.length) ∧ Keeps (fun _ => False) w wr) := ⟨fun h => hfit (h q (List.mem_of_getElem? hpj)), hT.k⟩
        rw [hrs]
        clear hT hq hfit hpj hqm hMr hc1 hqe hjx hj hrs hte
        go_wp2_with fail
        refine HC.out.mono ?_
        rintro e w2 ⟨rfl, hk2⟩
        have HK2 : Hid (Keeps _ _ _) := hk2
        clear hk2 HC
        go_wp2
        go_ret2
        exact .inr ⟨HF.out.1, rfl, (HF.out.2.trans HK2.out fun _ _ e => e).alloc _⟩
    · obtain rfl : j = L := by omega
      have HF : Hid ((∀ q ∈ ports, 0 ≤ q ∧ q + (rsz 3 n d : Int) ≤ xs.length) ∧ rs.length = ports.length) := ⟨fun q hm => by
        obtain ⟨i, hi, rfl⟩ := List.getElem_of_mem hm
        exact hq i (by have := HS.out.2.1; omega) _ (List.getElem?_eq_getElem hi), by rw [hrs]; exact HS.out.2.1⟩
      obtain ⟨av, cv, hav, _, _⟩ := segR_of_owns hT.own
      subst hav
      have HT : Hid (TpI w wr (.slice av rs.length cv) xs n d ports rs) := hT
      clear hT hq hrs
      go_wp2
      go_ret2
      exact .inl ⟨HF.out.1, _, rs, HF.out.2, rfl, HT.out⟩

end Go.Proofs.Ytekijhhpldnmnaa
