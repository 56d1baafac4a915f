import Derived.Test.YtfbapgcopidbpaaGreatSm
namespace Go.Proofs.YtfbapgcopidbpaaGreat
open Go.RowKit
set_option linter.unusedVariables false
set_option maxRecDepth 6000
variable {f : Nat} {bs : Array Value} {S : Nat → Prop} {J : World → Int → List (Ow × Int) → Prop}

/-- While all is laid: the layout's block, the two rows, and the lists in them. -/
structure LI (w : World) (x : Cfg) (C N : Nat) (S : Nat → Prop) (a : Int) (b1 b2 b5 : Nat) (F : Nat → PP) (G : Nat → CP) (T : Nat → List Int) (D : Nat → List Dst) (w' : World) : Prop where
  cfg : Blk w' C x.vs 42
  res : Blk w' (C + 1) [.int .i64 0, .slice none 0 0, .slice none 0 0, .int .i64 0] 35
  kp : Keeps S w w'
  cin : x.In w' N
  cw : C = w.heap.size
  n : N ≤ C
  low : ∀ k, S k → N ≤ k ∧ k < w.heap.size
  sz : C + 2 ≤ w'.heap.size
  l : Blk w' b5 [.int .i64 a, .slice (some ⟨b1, 0, none⟩) x.ps.length x.ps.length, .slice (some ⟨b2, 0, none⟩) x.hs.length x.hs.length, .int .i64 0] 35
  p : Blk w' b1 (row5 (fun i => (F i).vs) x.ps.length) 90
  c : Blk w' b2 (row5 (fun i => (G i).vs) x.hs.length) 82
  lo : C + 2 ≤ b1 ∧ C + 2 ≤ b2 ∧ C + 2 ≤ b5
  ne : b1 ≠ b2 ∧ b5 ≠ b1 ∧ b5 ≠ b2
  tr : ∀ i, i < x.ps.length → Row eInt w' (C + 2) (F i).tv (T i) ∧ ∀ k, (F i).tv.ownBlock = some k → k ≠ b1 ∧ k ≠ b2 ∧ k ≠ b5
  dr : ∀ i, i < x.hs.length → Row eDst w' (C + 2) (G i).dv (D i) ∧ ∀ k, (G i).dv.ownBlock = some k → k ≠ b1 ∧ k ≠ b2 ∧ k ≠ b5
section
variable {w w' w'' : World} {x : Cfg} {C N b1 b2 b5 : Nat} {a : Int} {F : Nat → PP} {G : Nat → CP} {T : Nat → List Int} {D : Nat → List Dst}
/-- A step that writes only blocks of S, and new ones. -/
theorem LI.call (h : LI w x C N S a b1 b2 b5 F G T D w') (hK : Keeps S w' w'') : LI w x C N S a b1 b2 b5 F G T D w'' := by
  have hcw := h.cw
  have no : ∀ k, C ≤ k → ¬ S k := fun k hk e => by have := (h.low k e).2; omega
  have hl := h.lo
  exact ⟨h.cfg.kept hK (no _ (by omega)), h.res.kept hK (no _ (by omega)), h.kp.trans hK fun _ _ h => h, h.cin.below (hK.below (by have := h.n; have := h.sz; omega) fun k e => (h.low k e).1), h.cw, h.n, h.low, Nat.le_trans h.sz hK.size,
    h.l.kept hK (no _ (by omega)), h.p.kept hK (no _ (by omega)), h.c.kept hK (no _ (by omega)), h.lo, h.ne,
    fun i hi => ⟨(h.tr i hi).1.kept hK fun k hk => by have := (h.low k hk).2; omega, (h.tr i hi).2⟩, fun i hi => ⟨(h.dr i hi).1.kept hK fun k hk => by have := (h.low k hk).2; omega, (h.dr i hi).2⟩⟩
theorem LI.grow (h : LI w x C N S a b1 b2 b5 F G T D w') (hK : Keeps (fun _ => False) w' w'') : LI w x C N S a b1 b2 b5 F G T D w'' := h.call (hK.mono fun _ _ h => h.elim)
/-- A step that writes one of the three blocks. -/
theorem LI.wr (h : LI w x C N S a b1 b2 b5 F G T D w') {b : Nat} (hb : b = b1 ∨ b = b2 ∨ b = b5) (hK : Keeps (fun k => k = b) w' w'') :
    Blk w'' C x.vs 42 ∧ Blk w'' (C + 1) [.int .i64 0, .slice none 0 0, .slice none 0 0, .int .i64 0] 35 ∧ Keeps S w w'' ∧ x.In w'' N ∧ C + 2 ≤ w''.heap.size ∧
    (∀ i, i < x.ps.length → Row eInt w'' (C + 2) (F i).tv (T i)) ∧ (∀ i, i < x.hs.length → Row eDst w'' (C + 2) (G i).dv (D i)) := by
  have hcw := h.cw
  have hl := h.lo
  have hn := h.n
  have hsz := h.sz
  refine ⟨h.cfg.kept hK (by omega), h.res.kept hK (by omega), h.kp.trans hK fun k hk e => absurd hk (by omega), h.cin.below (hK.below (by omega) fun k e => by omega), Nat.le_trans hsz hK.size, fun i hi => ?_, fun i hi => ?_⟩
  · refine (h.tr i hi).1.own_kept eInt_bl hK fun k hk e => ?_
    have := (h.tr i hi).2 k hk
    omega
  · refine (h.dr i hi).1.own_kept eDst_bl hK fun k hk e => ?_
    have := (h.dr i hi).2 k hk
    omega
theorem PP.vs5 (p : PP) : p.vs.length = 5 := rfl
theorem CP.vs5 (p : CP) : p.vs.length = 5 := rfl
theorem upd_vs (F : Nat → PP) (j : Nat) (v : PP) : (fun i => (upd F j v i).vs) = upd (fun i => (F i).vs) j v.vs := by
  funext i; unfold upd; split <;> rfl
theorem upd_vsC (F : Nat → CP) (j : Nat) (v : CP) : (fun i => (upd F j v i).vs) = upd (fun i => (F i).vs) j v.vs := by
  funext i; unfold upd; split <;> rfl
theorem LI.putP (h : LI w x C N S a b1 b2 b5 F G T D w') {j : Nat} (hj : j < x.ps.length) (v : PP) (t : List Int) (hK : Keeps (fun k => k = b1) w' w'') (hB : Blk w'' b1 (row5 (upd (fun i => (F i).vs) j v.vs) x.ps.length) 90)
    (hr : Row eInt w'' (C + 2) v.tv t) (hn : ∀ k, v.tv.ownBlock = some k → k ≠ b1 ∧ k ≠ b2 ∧ k ≠ b5) : LI w x C N S a b1 b2 b5 (upd F j v) G (upd T j t) D w'' := by
  obtain ⟨h1, h2, h3, h4, h5, h6, h7⟩ := h.wr (.inl rfl) hK
  have hne := h.ne
  refine ⟨h1, h2, h3, h4, h.cw, h.n, h.low, h5, h.l.kept hK hne.2.1, by rw [upd_vs]; exact hB, h.c.kept hK (fun e => hne.1 e.symm), h.lo, h.ne, fun i hi => ?_, fun i hi => ⟨h7 i hi, (h.dr i hi).2⟩⟩
  by_cases e : i = j
  · subst e; rw [upd_same, upd_same]; exact ⟨hr, hn⟩
  · rw [upd_ne _ _ e, upd_ne _ _ e]; exact ⟨h6 i hi, (h.tr i hi).2⟩
theorem LI.putC (h : LI w x C N S a b1 b2 b5 F G T D w') {j : Nat} (hj : j < x.hs.length) (v : CP) (t : List Dst) (hK : Keeps (fun k => k = b2) w' w'') (hB : Blk w'' b2 (row5 (upd (fun i => (G i).vs) j v.vs) x.hs.length) 82)
    (hr : Row eDst w'' (C + 2) v.dv t) (hn : ∀ k, v.dv.ownBlock = some k → k ≠ b1 ∧ k ≠ b2 ∧ k ≠ b5) : LI w x C N S a b1 b2 b5 F (upd G j v) T (upd D j t) w'' := by
  obtain ⟨h1, h2, h3, h4, h5, h6, h7⟩ := h.wr (.inr (.inl rfl)) hK
  have hne := h.ne
  refine ⟨h1, h2, h3, h4, h.cw, h.n, h.low, h5, h.l.kept hK hne.2.2, h.p.kept hK hne.1, by rw [upd_vsC]; exact hB, h.lo, h.ne, fun i hi => ⟨h6 i hi, (h.tr i hi).2⟩, fun i hi => ?_⟩
  by_cases e : i = j
  · subst e; rw [upd_same, upd_same]; exact ⟨hr, hn⟩
  · rw [upd_ne _ _ e, upd_ne _ _ e]; exact ⟨h7 i hi, (h.dr i hi).2⟩
/-- The j-th place of the row is written whole. -/
theorem LI.storeP (h : LI w x C N S a b1 b2 b5 F G T D w') {j : Nat} (hj : j < x.ps.length) (v : PP) (hv : v.tv = .slice none 0 0) :
    LI w x C N S a b1 b2 b5 (upd F j v) G (upd T j []) D (w'.setRow b1 ((row5 (fun i => (F i).vs) x.ps.length).take (j * 5) ++ v.vs ++ (row5 (fun i => (F i).vs) x.ps.length).drop (j * 5 + v.vs.length)).toArray) := by
  have hK : Keeps (fun k => k = b1) w' (w'.setRow b1 ((row5 (fun i => (F i).vs) x.ps.length).take (j * 5) ++ v.vs ++ (row5 (fun i => (F i).vs) x.ps.length).drop (j * 5 + v.vs.length)).toArray) := (Keeps.refl _ _).setRow _ _ fun _ => rfl
  refine h.putP hj v [] hK ?_ (by rw [hv]; exact Row.nil _ _) (fun k e => by rw [hv] at e; cases e)
  have := h.p.setRow ((row5 (fun i => (F i).vs) x.ps.length).take (j * 5) ++ v.vs ++ (row5 (fun i => (F i).vs) x.ps.length).drop (j * 5 + v.vs.length))
  have e := row5_put (F := fun i => (F i).vs) (fun i => PP.vs5 _) hj v.vs rfl
  rw [show v.vs.length = 5 from rfl] at this ⊢
  rw [e] at this ⊢
  exact this
theorem LI.storeC (h : LI w x C N S a b1 b2 b5 F G T D w') {j : Nat} (hj : j < x.hs.length) (v : CP) (t : List Dst) (hr : Row eDst w' (C + 2) v.dv t) (hn : ∀ k, v.dv.ownBlock = some k → k ≠ b1 ∧ k ≠ b2 ∧ k ≠ b5) :
    LI w x C N S a b1 b2 b5 F (upd G j v) T (upd D j t) (w'.setRow b2 ((row5 (fun i => (G i).vs) x.hs.length).take (j * 5) ++ v.vs ++ (row5 (fun i => (G i).vs) x.hs.length).drop (j * 5 + v.vs.length)).toArray) := by
  have hK : Keeps (fun k => k = b2) w' (w'.setRow b2 ((row5 (fun i => (G i).vs) x.hs.length).take (j * 5) ++ v.vs ++ (row5 (fun i => (G i).vs) x.hs.length).drop (j * 5 + v.vs.length)).toArray) := (Keeps.refl _ _).setRow _ _ fun _ => rfl
  refine h.putC hj v t hK ?_ (hr.own_kept eDst_bl hK fun k hk e => (hn k hk).2.1 e) hn
  have := h.c.setRow ((row5 (fun i => (G i).vs) x.hs.length).take (j * 5) ++ v.vs ++ (row5 (fun i => (G i).vs) x.hs.length).drop (j * 5 + v.vs.length))
  have e := row5_put (F := fun i => (G i).vs) (fun i => CP.vs5 _) hj v.vs rfl
  rw [show v.vs.length = 5 from rfl] at this ⊢
  rw [e] at this ⊢
  exact this
theorem LI.root (h : LI w x C N S a b1 b2 b5 F G T D w') {j : Nat} (hj : j < x.ps.length) (r : Int) :
    LI w x C N S a b1 b2 b5 (upd F j { F j with root := r }) G T D (w'.setCell ⟨b1, j * 5 + 3, none⟩ (.int .i64 r)) := by
  have hK : Keeps (fun k => k = b1) w' (w'.setCell ⟨b1, j * 5 + 3, none⟩ (.int .i64 r)) := (Keeps.refl _ _).setCell _ _ fun _ => rfl
  have hB := h.p.setCell (j * 5 + 3) (.int .i64 r)
  rw [row5_set (F := fun i => (F i).vs) (fun i => PP.vs5 _) hj (by omega)] at hB
  have := h.putP hj { F j with root := r } (T j) hK hB ((h.tr j hj).1.own_kept eInt_bl hK fun k hk e => ((h.tr j hj).2 k hk).1 e) (h.tr j hj).2
  rwa [show upd T j (T j) = T from by funext i; unfold upd; split <;> simp_all] at this
theorem LI.tabs (h : LI w x C N S a b1 b2 b5 F G T D w') {j : Nat} (hj : j < x.ps.length) (v : Value) (t : List Int) (hr : Row eInt w' (C + 2) v t) (hn : ∀ k, v.ownBlock = some k → k ≠ b1 ∧ k ≠ b2 ∧ k ≠ b5) :
    LI w x C N S a b1 b2 b5 (upd F j { F j with tv := v }) G (upd T j t) D (w'.setCell ⟨b1, j * 5 + 4, none⟩ v) := by
  have hK : Keeps (fun k => k = b1) w' (w'.setCell ⟨b1, j * 5 + 4, none⟩ v) := (Keeps.refl _ _).setCell _ _ fun _ => rfl
  have hB := h.p.setCell (j * 5 + 4) v
  rw [row5_set (F := fun i => (F i).vs) (fun i => PP.vs5 _) hj (by omega)] at hB
  exact h.putP hj { F j with tv := v } t hK hB (hr.own_kept eInt_bl hK fun k hk e => (hn k hk).1 e) hn
end

/-! ### Where all lies -/
def dstsOf (x : Cfg) (n : Nat) : List Dst := endsL false n x.ps x.ps.length
def chSz (x : Cfg) (n : Nat) : Int := match x.hs[n]? with | some h => 2 + h.stg + (dstsOf x n).length * h.prt | none => 0
def chAt (x : Cfg) (b : Int) : Nat → Int | 0 => b | n + 1 => chAt x b n + chSz x n
def rtSz (x : Cfg) (i : Nat) : Int := match x.ps[i]? with | some P => 16 + 16 * (cntT P.rs 16 : Int) | none => 0
def rtAt (x : Cfg) (b : Int) : Nat → Int | 0 => b | i + 1 => rtAt x b i + rtSz x i
def partH (j : Nat) : List (Ow × Int) := (List.range j).flatMap fun (p : Nat) => [((⟨3, (p : Int), 0⟩ : Ow), (2 : Int)), (⟨4, p, 0⟩, 17), (⟨5, p, 0⟩, 5)]
def chansH (x : Cfg) (j : Nat) : List (Ow × Int) := (List.range j).flatMap fun (n : Nat) => match x.hs[n]? with | some h => chanH n h (dstsOf x n) | none => []
def tabsH (x : Cfg) (j : Nat) : List (Ow × Int) := (List.range j).flatMap fun (p : Nat) => match x.ps[p]? with | some P => List.replicate (1 + cntT P.rs 16) ((⟨9, (p : Int), 0⟩ : Ow), (16 : Int)) | none => []
theorem partH_succ (j : Nat) : partH (j + 1) = partH j ++ [(⟨3, j, 0⟩, 2), (⟨4, j, 0⟩, 17), (⟨5, j, 0⟩, 5)] := by unfold partH; rw [List.range_succ, List.flatMap_append]; simp
theorem chansH_succ {x : Cfg} {j : Nat} {h : Chn} (hh : x.hs[j]? = some h) : chansH x (j + 1) = chansH x j ++ chanH j h (dstsOf x j) := by unfold chansH; rw [List.range_succ, List.flatMap_append]; simp [hh]
theorem tabsH_succ {x : Cfg} {j : Nat} {P : Par} (hh : x.ps[j]? = some P) : tabsH x (j + 1) = tabsH x j ++ List.replicate (1 + cntT P.rs 16) ((⟨9, (j : Int), 0⟩ : Ow), (16 : Int)) := by unfold tabsH; rw [List.range_succ, List.flatMap_append]; simp [hh]
theorem chAt_succ {x : Cfg} {b : Int} {n : Nat} {h : Chn} (hh : x.hs[n]? = some h) : chAt x b (n + 1) = chAt x b n + 2 + h.stg + (dstsOf x n).length * h.prt := by
  show chAt x b n + chSz x n = _; unfold chSz; rw [hh]; dsimp only; omega
theorem rtAt_succ {x : Cfg} {b : Int} {n : Nat} {P : Par} (hh : x.ps[n]? = some P) : rtAt x b (n + 1) = rtAt x b n + 16 + 16 * (cntT P.rs 16 : Int) := by
  show rtAt x b n + rtSz x n = _; unfold rtSz; rw [hh]; dsimp only; omega
theorem chSz_bd {x : Cfg} (hm : x.mayB = true) (n : Nat) : 0 ≤ chSz x n ∧ chSz x n ≤ 1000 := by
  unfold chSz
  cases hh : x.hs[n]? with
  | none => simp
  | some h =>
    obtain ⟨hs, _, h1, h4⟩ := Cfg.mayB_chn hm hh
    have hb := Chn.plc_bd hs
    have h2 : 3 ≤ h.stg ∧ h.stg ≤ 137 := by unfold Chn.stg; omega
    have h3 : 4 ≤ h.prt ∧ h.prt ≤ 139 := by unfold Chn.prt; split <;> omega
    obtain ⟨d, hd⟩ : ∃ d, (dstsOf x n).length = d := ⟨_, rfl⟩
    have hd2 : 1 ≤ d ∧ d ≤ 4 := by rw [← hd]; exact ⟨h1, h4⟩
    dsimp only
    rw [hd]
    have h5 : d = 1 ∨ d = 2 ∨ d = 3 ∨ d = 4 := by omega
    rcases h5 with h5 | h5 | h5 | h5 <;> subst h5 <;> omega
theorem chAt_bd {x : Cfg} (hm : x.mayB = true) (b : Int) (n : Nat) : b ≤ chAt x b n ∧ chAt x b n ≤ b + 1000 * n := by
  induction n with
  | zero => simp [chAt]
  | succ n ih => have := chSz_bd hm n; show b ≤ chAt x b n + chSz x n ∧ chAt x b n + chSz x n ≤ _; omega
theorem rtSz_bd (x : Cfg) (n : Nat) : 0 ≤ rtSz x n ∧ rtSz x n ≤ 272 ∧ rtSz x n % 16 = 0 := by
  unfold rtSz
  cases x.ps[n]? with
  | none => simp
  | some P => have := cntT_le P.rs 16; dsimp only; omega
theorem rtAt_bd (x : Cfg) (b : Int) (n : Nat) : b ≤ rtAt x b n ∧ rtAt x b n ≤ b + 272 * n ∧ (b % 16 = 0 → rtAt x b n % 16 = 0) := by
  induction n with
  | zero => simp [rtAt]
  | succ n ih =>
    have := rtSz_bd x n
    show b ≤ rtAt x b n + rtSz x n ∧ rtAt x b n + rtSz x n ≤ _ ∧ (_ → (rtAt x b n + rtSz x n) % 16 = 0)
    refine ⟨by omega, by omega, fun h => ?_⟩
    have := ih.2.2 h
    omega
end Go.Proofs.YtfbapgcopidbpaaGreat
