import Derived.Test.YtjadpbkhfclldaaGreatJWp
import Derived.Deep.RegionHeld3
import Derived.Test.YtjadpbkhfclldaaGreatJRp
namespace Go.Proofs.YtjadpbkhfclldaaGreat
open Go.RowKit
set_option linter.unusedVariables false
set_option maxRecDepth 6000

theorem Wt.drew {w : World} {a b : Nat} {g : Option Nat} {xs : List UInt8} {d : Bool} (h : Wt w a b g xs d) : Wt w.drew a b g xs d := h.kept ((Keeps.refl (fun _ => False) w).drew) fun _ _ e => e
theorem Wt.drewN {w : World} {a b : Nat} {g : Option Nat} {xs : List UInt8} {d : Bool} (h : Wt w a b g xs d) (n : Nat) : Wt (w.drewN n) a b g xs d := h.kept ((Keeps.refl (fun _ => False) w).drewN n) fun _ _ e => e
theorem seg_blk {w : World} {g : Nat} {xs : List UInt8} {t : TypeId} (h : Blk w g (bvs xs) t) : Seg w (some ⟨g, 0, none⟩) xs :=
  .inr ⟨g, 0, rfl, fun j hj => by rw [Nat.zero_add]; exact h.cell (bvs_get xs j hj)⟩

set_option maxHeartbeats 1000000 in
theorem wsum_any (a b : Nat) (g : Option Nat) (xs : List UInt8) (d : Bool) (w : World) (h : Wt w a b g xs d) (hx : xs.length + 4 ≤ 140737488355328) :
    Calls Tryz.prog 19 #[.pointer (some ⟨a, 0, none⟩)] w fun e w' => e = .returned (.tuple #[]) ∧ Put w a b g xs w' (lowB 4 (sumN xs)) d := by
  have HH : Hid (Wt w a b g xs d) := h
  have p0 := h.blk.cell (i := 0) rfl
  clear h
  go_enter Tryz.func19, Tryz.ntmps19
  go_wp2
  go_region_held3 (fun w' => w'.cell? ⟨a, 0, none⟩ = some (.pointer (some ⟨b, 0, none⟩))) (first | exact hS | go_keep)
    (first
      | (go_at_call 21; refine (wOut_any b g xs _ HH.out.drew.wr (by omega)).mono ?_; rintro e w2 ⟨rfl, hB2, hK2⟩; have hS : w2.cell? ⟨a, 0, none⟩ = some (.pointer (some ⟨b, 0, none⟩)) := (HH.out.drew.kept hK2 fun _ _ e => e).blk.cell (i := 0) rfl)
      | (go_at_call 46; refine (sum_any _ _ xs _ (seg_blk hB2) (by unfold maxLen; omega)).mono ?_; rintro e w3 ⟨rfl, rfl⟩)
      | (go_at_call 17; refine (wU32_any b (sumN xs) g xs _ (HH.out.drew.kept hK2 fun _ _ e => e).wr hx (sumN_lt xs)).mono ?_; rintro e w4 ⟨rfl, g4, hW4, hg4, hK4⟩; have hS : w4.cell? ⟨a, 0, none⟩ = some (.pointer (some ⟨b, 0, none⟩)) := ((HH.out.drew.kept hK2 fun _ _ e => e).blk.kept hK4 (fun e => e.elim HH.out.ne fun e => HH.out.ng a e.symm rfl)).cell (i := 0) rfl))
  go_wp2
  go_end0
  have hKd := ((Keeps.refl (fun _ => False) w).drew).trans hK2 fun _ _ e => e
  exact ⟨rfl, (Put.of_bits (HH.out.kept hKd fun _ _ e => e) hW4 hg4 hK4).grown hKd⟩

/-- The form: the mark, the items, the sum. -/
def markB : List UInt8 := lowB 4 826493762
def body (x : Cfg) : List UInt8 := markB ++ x.e
def form (x : Cfg) : List UInt8 := body x ++ lowB 4 (sumN (body x))
theorem body_le (x : Cfg) : (body x).length ≤ 2221073 := by
  unfold body markB; rw [List.length_append, lowB_len]; have := x.e_le; omega

set_option maxHeartbeats 1000000 in
theorem encode_any (N : Nat) (x : Cfg) (w : World) (hi : x.In w N) (hN : N ≤ w.heap.size) :
    Calls Tryz.prog 8 #[x.v] w fun e w' => Keeps (fun _ => False) w w' ∧ ((x.d = true ∧ e = .returned (.tuple #[.slice none 0 0, .int .i64 112])) ∨ (x.d = false ∧ 16384 < (form x).length ∧ e = .returned (.tuple #[.slice none 0 0, .int .i64 2])) ∨
      (x.d = false ∧ (form x).length ≤ 16384 ∧ ∃ g, w.heap.size ≤ g ∧ Blk w' g (bvs (form x)) 5 ∧ e = .returned (.tuple #[.slice (some ⟨g, 0, none⟩) (form x).length (form x).length, .int .i64 0]))) := by
  have HI : Hid (x.In w N ∧ N ≤ w.heap.size) := ⟨hi, hN⟩
  clear hi hN
  obtain ⟨n1, n2, n3, n4, ca, cc, cs, pa, pc, ps, ha, hc, hs⟩ := x
  obtain ⟨X, hX⟩ : ∃ X : Cfg, X = ⟨n1, n2, n3, n4, ca, cc, cs, pa, pc, ps, ha, hc, hs⟩ := ⟨_, rfl⟩
  rw [← hX] at HI ⊢
  have HX : Hid (X = ⟨n1, n2, n3, n4, ca, cc, cs, pa, pc, ps, ha, hc, hs⟩) := hX
  obtain ⟨L1, hL1⟩ : ∃ L, cs.length = L := ⟨_, rfl⟩
  obtain ⟨L2, hL2⟩ : ∃ L, ps.length = L := ⟨_, rfl⟩
  obtain ⟨L3, hL3⟩ : ∃ L, hs.length = L := ⟨_, rfl⟩
  have hv : X.v = .agg #[.int .i64 n1, .int .i64 n2, .int .i64 n3, .int .i64 n4, .slice ca L1 cc, .slice pa L2 pc, .slice ha L3 hc] := by rw [hX, ← hL1, ← hL2, ← hL3]
  have HV : Hid (X.v = .agg #[.int .i64 n1, .int .i64 n2, .int .i64 n3, .int .i64 n4, .slice ca L1 cc, .slice pa L2 pc, .slice ha L3 hc]) := hv
  rw [hv]
  clear hX hv hL1 hL2 hL3
  go_enter Tryz.func8, Tryz.ntmps8
  go_wp2_with fail
  obtain ⟨W, hW⟩ : ∃ W, W = w.alloc (.cells #[.int .i64 n1, .int .i64 n2, .int .i64 n3, .int .i64 n4, .slice ca L1 cc, .slice pa L2 pc, .slice ha L3 hc] 26) := ⟨_, rfl⟩
  have hKW : Keeps (fun _ => False) w W := by rw [hW]; exact (Keeps.refl _ w).alloc _
  have hBW : Blk W w.heap.size [.int .i64 n1, .int .i64 n2, .int .i64 n3, .int .i64 n4, .slice ca L1 cc, .slice pa L2 pc, .slice ha L3 hc] 26 := by rw [hW]; exact Blk.new w _ _
  have HA : Hid (Keeps (fun _ => False) w W ∧ Blk W w.heap.size [.int .i64 n1, .int .i64 n2, .int .i64 n3, .int .i64 n4, .slice ca L1 cc, .slice pa L2 pc, .slice ha L3 hc] 26) := ⟨hKW, hBW⟩
  rw [← hW]
  clear hKW hBW hW
  refine (confWriter_any W).mono ?_
  rintro e w1 ⟨a, b, rfl, hw1, ha1, hb1, hK1⟩
  have p0 := hw1.blk.cell (i := 0) rfl
  have H1 : Hid (Wt w1 a b none [] false ∧ W.heap.size ≤ a ∧ W.heap.size ≤ b ∧ Keeps (fun _ => False) W w1) := ⟨hw1, ha1, hb1, hK1⟩
  clear hw1 ha1 hb1 hK1
  go_wp2_with fail
  refine (wU32_any b 826493762 none [] w1 H1.out.1.wr (by simp) (by omega)).mono ?_
  rintro e w2 ⟨rfl, g2, hW2, hg2, hK2⟩
  obtain ⟨g3, hw3, hg3, hK3⟩ := Put.of_bits H1.out.1 hW2 hg2 hK2
  have hB3 := (HA.out.2.kept H1.out.2.2.2 fun e => e).kept hK3 (by
    have h1 := H1.out.2.1; have h2 := H1.out.2.2.1; have h3 := HA.out.2.lt
    rintro (e | e | e)
    · omega
    · omega
    · cases e)
  have c0 := hB3.cell (i := 0) rfl
  have c1 := hB3.cell (i := 1) rfl
  have c2 := hB3.cell (i := 2) rfl
  have c3 := hB3.cell (i := 3) rfl
  have c4 := hB3.cell (i := 4) rfl
  have c5 := hB3.cell (i := 5) rfl
  have c6 := hB3.cell (i := 6) rfl
  have H2 : Hid (Wt w2 a b g3 markB false ∧ Hi W.heap.size a b g3 ∧ Keeps (fun _ => False) w w2) := by
    refine ⟨hw3, ⟨H1.out.2.1, H1.out.2.2.1, ?_⟩, (HA.out.1.trans H1.out.2.2.2 fun _ _ e => e).trans hK3 ?_⟩
    · intro k hk
      rcases hg3 with rfl | ⟨m, rfl, hm⟩
      · cases hk
      · cases hk; exact Nat.le_trans H1.out.2.2.2.size hm
    · intro k hk ho
      have h1 := H1.out.2.1; have h2 := H1.out.2.2.1; have := HA.out.1.size
      rcases ho with e | e | e
      · omega
      · omega
      · cases e
  clear p0 H1 hW2 hg2 hK2 hw3 hg3 hK3 hB3
  go_wp2_with fail
  have hNa : Hi N a b g3 := by
    have h1 := H2.out.2.1; have h2 := HI.out.2; have h3 := HA.out.1.size
    exact ⟨by have := h1.1; omega, by have := h1.2.1; omega, fun k hk => by have := h1.2.2 k hk; omega⟩
  have HC := config_any N a b g3 markB false X w2 H2.out.1 hNa (Nat.le_trans HI.out.2 H2.out.2.2.size) (HI.out.1.below (H2.out.2.2.below HI.out.2 fun _ e => e.elim)) (by decide)
  rw [HV.out] at HC
  refine HC.mono ?_
  rintro e w3 ⟨rfl, g4, hw4, hg4, hK4⟩
  have hO : ∀ k, Own a b g3 k → w.heap.size ≤ k := fun k ho => Nat.le_trans HA.out.1.size (H2.out.2.1.own ho)
  have H3 : Hid (Wt w3 a b g4 (body X) X.d ∧ Keeps (fun _ => False) w w3 ∧ ∀ k, Own a b g4 k → w.heap.size ≤ k) := by
    refine ⟨by have := hw4; rw [Bool.false_or] at this; exact this, H2.out.2.2.trans hK4 fun k hk ho => by have := hO k ho; omega, fun k ho => ?_⟩
    by_cases hk : k < w2.heap.size
    · exact hO k (own_back hg4 hk ho)
    · have := H2.out.2.2.size; omega
  have p1 := H3.out.1.blk.cell (i := 1) rfl
  have p0 := H3.out.1.blk.cell (i := 0) rfl
  clear hw4 hg4 hK4 hO hNa HC H2 c0 c1 c2 c3 c4 c5 c6
  cases hd : X.d
  · rw [hd] at p1
    have HD : Hid (X.d = false) := hd
    clear hd
    go_wp2_with fail
    refine (wsum_any a b g4 (body X) X.d w3 H3.out.1 (by have := body_le X; omega)).mono ?_
    rintro e w4 ⟨rfl, g5, hw5, hg5, hK5⟩
    have H4 : Hid (Wt w4 a b g5 (form X) X.d ∧ Keeps (fun _ => False) w w4) := by
      refine ⟨hw5, H3.out.2.1.trans hK5 fun k hk ho => by have := H3.out.2.2 k ho; omega⟩
    have q0 := H4.out.1.blk.cell (i := 0) rfl
    clear hw5 hg5 hK5 p0 p1 H3
    go_wp2_with fail
    refine (wLen_any b g5 (form X) w4 H4.out.1.wr).mono ?_
    rintro e w5 ⟨rfl, hw5⟩
    obtain rfl := hw5.symm
    clear hw5
    obtain ⟨M, hM⟩ : ∃ M, (form X).length = M := ⟨_, rfl⟩
    have HM : Hid ((form X).length = M) := hM
    rw [hM]
    clear hM
    by_cases hl : 16384 < M
    · have hl' : (16384 : Int) < M := by omega
      go_wp2
      go_ret2
      exact ⟨H4.out.2, .inr (.inl ⟨HD.out, by have := HM.out; omega, rfl⟩)⟩
    · have hl' : ¬ (16384 : Int) < M := by omega
      go_wp2_with fail
      refine (wOut_any b g5 (form X) w4 H4.out.1.wr (by have := HM.out; omega)).mono ?_
      rintro e w6 ⟨rfl, hB, hK6⟩
      have H6 : Hid (Keeps (fun _ => False) w w6 ∧ Blk w6 w4.heap.size (bvs (form X)) 5 ∧ w.heap.size ≤ w4.heap.size) := ⟨H4.out.2.trans hK6 fun _ _ e => e, hB, H4.out.2.size⟩
      clear hB hK6 q0 H4
      rw [HM.out]
      go_wp2
      go_ret2
      exact ⟨H6.out.1, .inr (.inr ⟨HD.out, by have := HM.out; omega, _, H6.out.2.2, H6.out.2.1, by rw [HM.out]; rfl⟩)⟩
  · rw [hd] at p1
    have HD : Hid (X.d = true) := hd
    clear hd
    go_wp2
    go_ret2
    exact ⟨H3.out.2.1, .inl ⟨HD.out, rfl⟩⟩
end Go.Proofs.YtjadpbkhfclldaaGreat
namespace Go.Proofs.YtjadpbkhfclldaaGreat
open Go.RowKit
set_option linter.unusedVariables false

def pbody (x : PCfg) : List UInt8 := lowB 4 826493762 ++ x.e
def pform (x : PCfg) : List UInt8 := pbody x ++ lowB 4 (sumN (pbody x))

theorem winE : Win.e = Win.e2 := by
  funext x
  have h : nb (inc x.p) = nb (x.p + 1) := by
    unfold nb
    congr 2
    show IntKind.i64.wrap (x.p + 1) % 4294967296 = _
    rw [IntKind.wrap_i64]; omega
  unfold Win.e Win.e2 Win.ns nbs
  simp only [List.flatMap_cons, h]
theorem winD {x : Win} (h : x.Fine) : x.d = x.d2 := by
  obtain ⟨⟨h1, h2⟩, _⟩ := h
  have hw : wN (inc x.p) = wN (x.p + 1) := by
    unfold wN
    show (decide (IntKind.i64.wrap (x.p + 1) < 0) || decide (4294967295 < IntKind.i64.wrap (x.p + 1))) = _
    rw [IntKind.wrap_i64, Bool.eq_iff_iff]; simp; omega
  unfold Win.d Win.d2 Win.ns wNs
  simp only [List.any_cons, hw]
theorem listB_map {α β : Type} (e : β → List UInt8) (g : α → β) (l : List α) : listB e (l.map g) = listB (fun x => e (g x)) l := by
  unfold listB; rw [List.length_map, List.flatMap_map]
theorem listW_map {α β : Type} (d : β → Bool) (g : α → β) (l : List α) : listW d (l.map g) = listW (fun x => d (g x)) l := by
  unfold listW; rw [List.length_map, List.any_map]; rfl
theorem any_cong {α : Type} {d d' : α → Bool} {l : List α} (h : ∀ x ∈ l, d x = d' x) : l.any d = l.any d' := by
  induction l with
  | nil => rfl
  | cons x l ih => rw [List.any_cons, List.any_cons, h x (by simp), ih fun y hy => h y (by simp [hy])]
theorem listW_cong {α : Type} {d d' : α → Bool} {l : List α} (h : ∀ x ∈ l, d x = d' x) : listW d l = listW d' l := by unfold listW; rw [any_cong h]
theorem cfgE (x : Cfg) : x.e = x.pure.e := by
  unfold Cfg.e PCfg.e Cfg.pure Cfg.ns
  simp only [listB_map]
  rw [show (fun c : Core => listB Win.e2 c.ws) = Core.e from by funext c; unfold Core.e; rw [winE]]
  rfl
theorem cfgD (x : Cfg) (h : ∀ c ∈ x.cs, ∀ y ∈ c.ws, y.Fine) : x.d = x.pure.d := by
  unfold Cfg.d PCfg.d Cfg.pure Cfg.ns
  simp only [listW_map]
  rw [show listW Core.d x.cs = listW (fun c => listW Win.d2 c.ws) x.cs from listW_cong fun c hc => listW_cong fun y hy => winD (h c hc y hy)]
  rfl
theorem cfgForm (x : Cfg) : form x = pform x.pure := by
  unfold form pform body pbody markB
  rw [cfgE]

theorem std_self (E F : List UInt8) : Std (E ++ F) 0 E := ⟨by simp, by simp⟩
theorem std_mid (A E F : List UInt8) : Std (A ++ (E ++ F)) A.length E := ⟨by simp, by simp⟩
theorem std_more {B E : List UInt8} {p : Nat} (h : Std B p E) (M : List UInt8) : Std (B ++ M) p E := by
  refine ⟨by rw [List.length_append]; have := h.1; omega, ?_⟩
  rw [List.drop_append_of_le_length (by have := h.1; omega), List.take_append_of_le_length (by rw [List.length_drop]; have := h.1; omega)]
  exact h.2
theorem std_less {B E : List UInt8} {p n : Nat} (h : Std (B.take n) p E) : Std B p E := by
  have h1 := h.1
  rw [List.length_take] at h1
  refine ⟨by omega, ?_⟩
  have h2 := h.2
  rw [List.drop_take, List.take_take, Nat.min_eq_left (by omega)] at h2
  exact h2
theorem pform_len (x : PCfg) : (pform x).length = 4 + x.e.length + 4 := by
  unfold pform pbody; rw [List.length_append, List.length_append, lowB_len, lowB_len]

/-- Behind a form. -/
theorem rd_form (x : PCfg) (hd : x.d = false) (M : List UInt8) : rdMark (pform x ++ M) 0 = .ok ((), 4) ∧ rdCfg (pform x ++ M) 4 = .ok (x, 4 + x.e.length) := by
  have e1 : pform x ++ M = lowB 4 826493762 ++ (x.e ++ (lowB 4 (sumN (pbody x)) ++ M)) := by unfold pform pbody; simp only [List.append_assoc]
  rw [e1]
  refine ⟨?_, ?_⟩
  · have := gMark.fwd (x := ()) rfl (std_self (lowB 4 826493762) (x.e ++ (lowB 4 (sumN (pbody x)) ++ M)))
    rw [lowB_len] at this; exact this
  · have := gCfg.fwd hd (std_mid (lowB 4 826493762) x.e (lowB 4 (sumN (pbody x)) ++ M))
    rw [lowB_len] at this; exact this
theorem dec_of {B : List UInt8} {x : PCfg} {p q : Nat} (h1 : rdMark B 0 = .ok ((), p)) (h2 : rdCfg B p = .ok (x, q)) : dec B = match rdEnd B q with | .error e => .error e | .ok _ => .ok x := by
  unfold dec; rw [h1]; simp only; rw [h2]; rfl
theorem dec_form (x : PCfg) (hd : x.d = false) : dec (pform x) = .ok x := by
  obtain ⟨h1, h2⟩ := rd_form x hd []
  rw [List.append_nil] at h1 h2
  rw [dec_of h1 h2]
  have hl := pform_len x
  have hb : (pform x).take (4 + x.e.length) = pbody x := by
    have : (pbody x).length = 4 + x.e.length := by unfold pbody; rw [List.length_append, lowB_len]
    unfold pform; rw [← this]; simp
  have hv : highN (((pform x).drop (4 + x.e.length)).take 4) = sumN (pbody x) := by
    have h3 : (pbody x).length = 4 + x.e.length := by unfold pbody; rw [List.length_append, lowB_len]
    have h4 : (pform x).drop (4 + x.e.length) = lowB 4 (sumN (pbody x)) := by unfold pform; rw [← h3]; simp
    rw [h4, List.take_of_length_le (by rw [lowB_len]; exact Nat.le_refl _), highN_lowB, Nat.mod_eq_of_lt]
    have := sumN_lt (pbody x)
    have e : (256 : Nat) ^ 4 = 4294967296 := by decide
    omega
  unfold rdEnd
  rw [if_neg (by omega), if_neg (by omega), hb, if_pos hv]
theorem dec_more (x : PCfg) (hd : x.d = false) (M : List UInt8) (hM : M ≠ []) : dec (pform x ++ M) = .error ((pform x).length, 110) := by
  obtain ⟨h1, h2⟩ := rd_form x hd M
  rw [dec_of h1 h2]
  have hl := pform_len x
  have : 0 < M.length := List.length_pos_iff.2 hM
  unfold rdEnd
  rw [if_neg (by rw [List.length_append]; omega), if_pos (by rw [List.length_append]; omega), hl]
/-- What was read. -/
theorem dec_ok {B : List UInt8} {x : PCfg} (h : dec B = .ok x) : x.d = false ∧ B = pform x := by
  unfold dec at h
  split at h
  · cases h
  · rename_i r h1
    split at h
    · cases h
    · rename_i y h2
      split at h
      · cases h
      · rename_i u h3
        cases h
        obtain ⟨r1, r2⟩ := r
        obtain ⟨y1, y2⟩ := y
        obtain ⟨_, k1, rfl⟩ := gMark.bwd (Nat.zero_le _) h1
        obtain ⟨k2, k3, rfl⟩ := gCfg.bwd k1.1 h2
        refine ⟨k2, ?_⟩
        have l1 : (lowB 4 826493762).length = 4 := lowB_len _ _
        simp only [l1, Nat.zero_add] at k1 k3 h3
        unfold rdEnd at h3
        split at h3
        · cases h3
        · split at h3
          · cases h3
          · split at h3
            · rename_i h5 h6 h7
              have hb : B.take (4 + y1.e.length) = pbody y1 := by
                have := (std_app (B := B) (p := 0) (E := lowB 4 826493762) (F := y1.e)).2 ⟨k1, by rw [l1, Nat.zero_add]; exact k3⟩
                have h8 := this.2
                rw [List.length_append, l1, List.drop_zero] at h8
                exact h8
              have hlen : (B.drop (4 + y1.e.length)).length = 4 := by rw [List.length_drop]; omega
              have hs : B.drop (4 + y1.e.length) = lowB 4 (sumN (pbody y1)) := by
                rw [List.take_of_length_le (by omega), hb] at h7
                rw [← h7]
                have := lowB_highN (B.drop (4 + y1.e.length))
                rw [hlen] at this
                exact this.symm
              unfold pform
              rw [← hb, ← List.take_append_drop (4 + y1.e.length) B]
              congr 1
              · rw [List.take_append_drop]
              · rw [List.take_append_drop, hb]; exact hs
            · cases h3
theorem dec_err {B : List UInt8} {q : Nat} {k : Int} (h : dec B = .error (q, k)) : q ≤ B.length ∧ (k = 110 ∨ k = 111) := by
  unfold dec at h
  split at h
  · rename_i q' h1
    cases h
    exact ⟨gMark.err (Nat.zero_le _) h1, .inl rfl⟩
  · rename_i r h1
    obtain ⟨r1, r2⟩ := r
    obtain ⟨_, k1, rfl⟩ := gMark.bwd (Nat.zero_le _) h1
    split at h
    · rename_i q' h2
      cases h
      exact ⟨gCfg.err k1.1 h2, .inl rfl⟩
    · rename_i y h2
      obtain ⟨y1, y2⟩ := y
      obtain ⟨k2, k3, rfl⟩ := gCfg.bwd k1.1 h2
      split at h
      · rename_i e h3
        cases h
        unfold rdEnd at h3
        have := k3.1
        split at h3
        · cases h3; exact ⟨this, .inl rfl⟩
        · split at h3
          · cases h3; exact ⟨by simp only at *; omega, .inl rfl⟩
          · split at h3
            · cases h3
            · cases h3; exact ⟨this, .inr rfl⟩
      · cases h
theorem dec_cut (x : PCfg) (hd : x.d = false) (n : Nat) (hn : n < (pform x).length) : ∃ q, dec ((pform x).take n) = .error (q, 110) ∧ q ≤ n := by
  have hlen : ((pform x).take n).length = n := by rw [List.length_take]; omega
  cases h : dec ((pform x).take n) with
  | ok y =>
    obtain ⟨h1, h2⟩ := dec_ok h
    obtain ⟨a1, a2⟩ := rd_form x hd []
    rw [List.append_nil] at a1 a2
    obtain ⟨b1, b2⟩ := rd_form y h1 []
    rw [List.append_nil, ← h2] at b1 b2
    have s2 := std_less (gCfg.bwd (by rw [hlen]; have := (gMark.bwd (Nat.zero_le _) b1).2.1.1; rw [hlen, lowB_len] at this; omega) b2).2.1
    have := gCfg.fwd h1 s2
    rw [a2] at this
    injection this with this
    injection this with e1 e2
    rw [h2, ← e1] at hlen
    omega
  | error e =>
    obtain ⟨q, k⟩ := e
    obtain ⟨h1, h2⟩ := dec_err h
    rw [hlen] at h1
    rcases h2 with rfl | rfl
    · exact ⟨q, rfl, h1⟩
    · exfalso
      unfold dec at h
      split at h
      · cases h
      · rename_i r g1
        obtain ⟨r1, r2⟩ := r
        obtain ⟨_, k1, rfl⟩ := gMark.bwd (Nat.zero_le _) g1
        split at h
        · cases h
        · rename_i y g2
          obtain ⟨y1, y2⟩ := y
          obtain ⟨k2, k3, rfl⟩ := gCfg.bwd k1.1 g2
          obtain ⟨a1, a2⟩ := rd_form x hd []
          rw [List.append_nil] at a1 a2
          have l1 : (lowB 4 826493762).length = 4 := lowB_len _ _
          have := gCfg.fwd k2 (std_less k3)
          rw [l1, Nat.zero_add, a2] at this
          injection this with this
          injection this with e1 e2
          split at h
          · rename_i e h3
            cases h
            unfold rdEnd at h3
            have hpl := pform_len x
            rw [hlen] at h3
            rw [if_pos (by simp only [l1, Nat.zero_add] at *; rw [← e1]; omega)] at h3
            cases h3
          · cases h
end Go.Proofs.YtjadpbkhfclldaaGreat
