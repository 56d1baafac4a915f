import Derived.Test.YthegceijlfflfaaGreatJPw
import Derived.Test.YthegceijlfflfaaGreatJRp
import Derived.Test.YthegceijlfflfaaGreatJEn
namespace Go.Proofs.YthegceijlfflfaaGreat
open Go.RowKit
set_option linter.unusedVariables false
def pbody (x : PCfg) : List UInt8 := lowB 4 826493762 ++ x.e
def pform (x : PCfg) : List UInt8 := pbody x ++ lowB 4 (sumN (pbody x))
theorem winE : Win.e = Win.e2 := by
 funext x
 have h : nb (inc x.p) = nb (x.p + 1) := by
  unfold nb
  congr 2
  show IntKind.i64.wrap (x.p + 1) % 4294967296 = _
  rw [IntKind.wrap_i64]; omega
 unfold Win.e Win.e2 Win.ns nbs
 simp only [List.flatMap_cons, h]
theorem winD {x : Win} (h : x.Fine) : x.d = x.d2 := by
 obtain ⟨⟨h1, h2⟩, _⟩ := h
 have hw : wN (inc x.p) = wN (x.p + 1) := by
  unfold wN
  show (decide (IntKind.i64.wrap (x.p + 1) < 0) || decide (4294967295 < IntKind.i64.wrap (x.p + 1))) = _
  rw [IntKind.wrap_i64, Bool.eq_iff_iff]; simp; omega
 unfold Win.d Win.d2 Win.ns wNs
 simp only [List.any_cons, hw]
theorem listB_map {α β : Type} (e : β → List UInt8) (g : α → β) (l : List α) : listB e (l.map g) = listB (fun x => e (g x)) l := by
 unfold listB; rw [List.length_map, List.flatMap_map]
theorem listW_map {α β : Type} (d : β → Bool) (g : α → β) (l : List α) : listW d (l.map g) = listW (fun x => d (g x)) l := by
 unfold listW; rw [List.length_map, List.any_map]; rfl
theorem any_cong {α : Type} {d d' : α → Bool} {l : List α} (h : ∀ x ∈ l, d x = d' x) : l.any d = l.any d' := by
 induction l with
 | nil => rfl
 | cons x l ih => rw [List.any_cons, List.any_cons, h x (by simp), ih fun y hy => h y (by simp [hy])]
theorem listW_cong {α : Type} {d d' : α → Bool} {l : List α} (h : ∀ x ∈ l, d x = d' x) : listW d l = listW d' l := by unfold listW; rw [any_cong h]
theorem cfgE (x : Cfg) : x.e = x.pure.e := by
 unfold Cfg.e PCfg.e Cfg.pure Cfg.ns
 simp only [listB_map]
 rw [show (fun c : Core => listB Win.e2 c.ws) = Core.e from by funext c; unfold Core.e; rw [winE]]
 rfl
theorem cfgD (x : Cfg) (h : ∀ c ∈ x.cs, ∀ y ∈ c.ws, y.Fine) : x.d = x.pure.d := by
 unfold Cfg.d PCfg.d Cfg.pure Cfg.ns
 simp only [listW_map]
 rw [show listW Core.d x.cs = listW (fun c => listW Win.d2 c.ws) x.cs from listW_cong fun c hc => listW_cong fun y hy => winD (h c hc y hy)]
 rfl
theorem cfgForm (x : Cfg) : form x = pform x.pure := by
 unfold form pform body pbody markB
 rw [cfgE]
theorem std_self (E F : List UInt8) : Std (E ++ F) 0 E := ⟨by simp, by simp⟩
theorem std_mid (A E F : List UInt8) : Std (A ++ (E ++ F)) A.length E := ⟨by simp, by simp⟩
theorem pform_len (x : PCfg) : (pform x).length = 4 + x.e.length + 4 := by
 unfold pform pbody; rw [List.length_append, List.length_append, lowB_len, lowB_len]
theorem rd_form (x : PCfg) (hd : x.d = false) (M : List UInt8) : rdMark (pform x ++ M) 0 = .ok ((), 4) ∧ rdCfg (pform x ++ M) 4 = .ok (x, 4 + x.e.length) := by
 have e1 : pform x ++ M = lowB 4 826493762 ++ (x.e ++ (lowB 4 (sumN (pbody x)) ++ M)) := by unfold pform pbody; simp only [List.append_assoc]
 rw [e1]
 refine ⟨?_, ?_⟩
 ·
  have := gMark.fwd (x := ()) rfl (std_self (lowB 4 826493762) (x.e ++ (lowB 4 (sumN (pbody x)) ++ M)))
  rw [lowB_len] at this; exact this
 ·
  have := gCfg.fwd hd (std_mid (lowB 4 826493762) x.e (lowB 4 (sumN (pbody x)) ++ M))
  rw [lowB_len] at this; exact this
theorem dec_of {B : List UInt8} {x : PCfg} {p q : Nat} (h1 : rdMark B 0 = .ok ((), p)) (h2 : rdCfg B p = .ok (x, q)) : dec B = match rdEnd B q with | .error e => .error e | .ok _ => .ok x := by
 unfold dec; rw [h1]; simp only; rw [h2]; rfl
theorem dec_form (x : PCfg) (hd : x.d = false) : dec (pform x) = .ok x := by
 obtain ⟨h1, h2⟩ := rd_form x hd []
 rw [List.append_nil] at h1 h2
 rw [dec_of h1 h2]
 have hl := pform_len x
 have hb : (pform x).take (4 + x.e.length) = pbody x := by
  have : (pbody x).length = 4 + x.e.length := by unfold pbody; rw [List.length_append, lowB_len]
  unfold pform; rw [← this]; simp
 have hv : highN (((pform x).drop (4 + x.e.length)).take 4) = sumN (pbody x) := by
  have h3 : (pbody x).length = 4 + x.e.length := by unfold pbody; rw [List.length_append, lowB_len]
  have h4 : (pform x).drop (4 + x.e.length) = lowB 4 (sumN (pbody x)) := by unfold pform; rw [← h3]; simp
  rw [h4, List.take_of_length_le (by rw [lowB_len]; exact Nat.le_refl _), highN_lowB, Nat.mod_eq_of_lt]
  have := sumN_lt (pbody x)
  have e : (256 : Nat) ^ 4 = 4294967296 := by decide
  omega
 unfold rdEnd
 rw [if_neg (by omega), if_neg (by omega), hb, if_pos hv]
theorem dec_ok {B : List UInt8} {x : PCfg} (h : dec B = .ok x) : x.d = false ∧ B = pform x := by
 unfold dec at h
 split at h
 ·
  cases h
 ·
  rename_i r h1
  split at h
  ·
   cases h
  ·
   rename_i y h2
   split at h
   ·
    cases h
   ·
    rename_i u h3
    cases h
    obtain ⟨r1, r2⟩ := r
    obtain ⟨y1, y2⟩ := y
    obtain ⟨_, k1, rfl⟩ := gMark.bwd (Nat.zero_le _) h1
    obtain ⟨k2, k3, rfl⟩ := gCfg.bwd k1.1 h2
    refine ⟨k2, ?_⟩
    have l1 : (lowB 4 826493762).length = 4 := lowB_len _ _
    simp only [l1, Nat.zero_add] at k1 k3 h3
    unfold rdEnd at h3
    split at h3
    ·
     cases h3
    ·
     split at h3
     ·
      cases h3
     ·
      split at h3
      ·
       rename_i h5 h6 h7
       have hb : B.take (4 + y1.e.length) = pbody y1 := by
        have := (std_app (B := B) (p := 0) (E := lowB 4 826493762) (F := y1.e)).2 ⟨k1, by rw [l1, Nat.zero_add]; exact k3⟩
        have h8 := this.2
        rw [List.length_append, l1, List.drop_zero] at h8
        exact h8
       have hlen : (B.drop (4 + y1.e.length)).length = 4 := by rw [List.length_drop]; omega
       have hs : B.drop (4 + y1.e.length) = lowB 4 (sumN (pbody y1)) := by
        rw [List.take_of_length_le (by omega), hb] at h7
        rw [← h7]
        have := lowB_highN (B.drop (4 + y1.e.length))
        rw [hlen] at this
        exact this.symm
       unfold pform
       rw [← hb, ← List.take_append_drop (4 + y1.e.length) B]
       congr 1
       ·
        rw [List.take_append_drop]
       ·
        rw [List.take_append_drop, hb]; exact hs
      ·
       cases h3
theorem dec_err {B : List UInt8} {q : Nat} {k : Int} (h : dec B = .error (q, k)) : q ≤ B.length ∧ (k = 110 ∨ k = 111) := by
 unfold dec at h
 split at h
 ·
  rename_i q' h1
  cases h
  exact ⟨gMark.err (Nat.zero_le _) h1, .inl rfl⟩
 ·
  rename_i r h1
  obtain ⟨r1, r2⟩ := r
  obtain ⟨_, k1, rfl⟩ := gMark.bwd (Nat.zero_le _) h1
  split at h
  ·
   rename_i q' h2
   cases h
   exact ⟨gCfg.err k1.1 h2, .inl rfl⟩
  ·
   rename_i y h2
   obtain ⟨y1, y2⟩ := y
   obtain ⟨k2, k3, rfl⟩ := gCfg.bwd k1.1 h2
   split at h
   ·
    rename_i e h3
    cases h
    unfold rdEnd at h3
    have := k3.1
    split at h3
    ·
     cases h3; exact ⟨this, .inl rfl⟩
    ·
     split at h3
     ·
      cases h3; exact ⟨by simp only at *; omega, .inl rfl⟩
     ·
      split at h3
      ·
       cases h3
      ·
       cases h3; exact ⟨this, .inr rfl⟩
   ·
    cases h
end Go.Proofs.YthegceijlfflfaaGreat
namespace Go.Proofs.YthegceijlfflfaaGreat
open Go.RowKit
set_option linter.unusedVariables false
set_option maxRecDepth 6000
set_option linter.unusedSimpArgs false
theorem results_cell_three {P : Program} {fn : Func} {p u v : Tmp} {ty : TypeId} (h : fn.results = #[.cell p ty, .tmp u, .tmp v]) (tmps : Array Value) (w : World) (g : Nat) (t : TypeId) (cs : Array Value) (fr : Nat × Nat) (d : TypeDesc)
  (hp : tmps.getD p undef = .pointer (some ⟨g, 0, none⟩)) (hg : w.heap[g]? = some (.cells cs t fr))
  (hu : P.underlying ty = some d) (hd : (match d with | .struct _ | .array _ _ => true | _ => false) = true) (hi : (P.info? ty).map (·.size) = some cs.size) :
  (results fn tmps).run P w = .ok (.tuple #[.agg cs, tmps.getD u undef, tmps.getD v undef]) w := by
 have hp' : tmps[p]?.getD undef = .pointer (some ⟨g, 0, none⟩) := by simpa using hp
 simp [results, h, hp', asAddr, run_loadVar_row w g t ty cs fr d hg hu hd hi]
def DecP (w : World) (B : List UInt8) (e : Ending) (w' : World) : Prop :=
 Keeps (fun _ => False) w w' ∧ ((16384 < B.length ∧ e = .returned (.tuple #[.agg zCfg.toArray, .int .i64 0, .int .i64 2])) ∨
  (B.length ≤ 16384 ∧ ((∃ x : Cfg, dec B = .ok x.pure ∧ e = .returned (.tuple #[x.v, .int .i64 0, .int .i64 0]) ∧ x.Lsts w' w.heap.size) ∨ (∃ (q : Nat) (k : Int), dec B = .error (q, k) ∧ e = .returned (.tuple #[.agg zCfg.toArray, .int .i64 q, .int .i64 k])))))
abbrev vals7 (m1 m2 m3 m4 : Int) (ca : Option Addr) (L1 cc : Nat) (pa : Option Addr) (L2 pc : Nat) (ha : Option Addr) (L3 hc : Nat) : List Value := [.int .i64 m1, .int .i64 m2, .int .i64 m3, .int .i64 m4, .slice ca L1 cc, .slice pa L2 pc, .slice ha L3 hc]
theorem ReadP.open {w w' : World} {B : List UInt8} {e : Ending} (h : ReadP w B e w') : ∃ (m1 m2 m3 m4 : Int) (ca : Option Addr) (L1 cc : Nat) (pa : Option Addr) (L2 pc : Nat) (ha : Option Addr) (L3 hc : Nat) (q : Nat) (k : Int),
  e = .returned (.tuple #[.agg #[.int .i64 m1, .int .i64 m2, .int .i64 m3, .int .i64 m4, .slice ca L1 cc, .slice pa L2 pc, .slice ha L3 hc], .agg #[.int .i64 q, .int .i64 k]]) ∧ Keeps (fun _ => False) w w' ∧ ((∃ x : Cfg, dec B = .ok x.pure ∧ x.vs = [.int .i64 m1, .int .i64 m2, .int .i64 m3, .int .i64 m4, .slice ca L1 cc, .slice pa L2 pc, .slice ha L3 hc] ∧ q = 0 ∧ k = 0 ∧ x.Lsts w' w.heap.size) ∨ (dec B = .error (q, k) ∧ [.int .i64 m1, .int .i64 m2, .int .i64 m3, .int .i64 m4, .slice ca L1 cc, .slice pa L2 pc, .slice ha L3 hc] = zCfg)) := by
 obtain ⟨⟨x, h1, rfl, h3⟩ | ⟨q, k, h1, rfl⟩, hK⟩ := h
 ·
  obtain ⟨n1, n2, n3, n4, ca, cc, cs, pa, pc, ps, ha, hc, hs⟩ := x
  exact ⟨n1, n2, n3, n4, ca, cs.length, cc, pa, ps.length, pc, ha, hs.length, hc, 0, 0, rfl, hK, .inl ⟨_, h1, rfl, rfl, rfl, h3⟩⟩
 ·
  exact ⟨0, 0, 0, 0, none, 0, 0, none, 0, 0, none, 0, 0, q, k, rfl, hK, .inr ⟨h1, rfl⟩⟩
set_option maxHeartbeats 1000000 in
theorem decode_short (B : List UInt8) (a : Option Addr) (cap : Nat) (w : World) (hs : Seg w a B) (hcap : B.length ≤ cap ∧ cap ≤ maxLen) (hB : B.length ≤ 16384) (hlt : B ≠ [] → ∀ y, a = some y → y.block < w.heap.size) :
  Calls Tryz.prog 17 #[.slice a B.length cap] w (DecP w B) := by
 obtain ⟨L, hL⟩ : ∃ L, B.length = L := ⟨_, rfl⟩
 have hl' : ¬ (16384 : Int) < L := by omega
 have HS : Hid (Seg w a B ∧ B.length = L ∧ (B ≠ [] → ∀ y, a = some y → y.block < w.heap.size) ∧ B.length ≤ 16384 ∧ L ≤ cap ∧ cap ≤ maxLen) := ⟨hs, hL, hlt, hB, by omega, hcap.2⟩
 rw [hL]
 clear hs hL hlt hB hcap
 go_enter Tryz.func17, Tryz.ntmps17
 go_wp2_with fail
 obtain ⟨C, hC⟩ : ∃ C, C = w.heap.size := ⟨_, rfl⟩
 obtain ⟨W, hW⟩ : ∃ W, W = w.alloc (.cells #[.int .i64 0, .int .i64 0, .int .i64 0, .int .i64 0, .slice none 0 0, .slice none 0 0, .slice none 0 0] 26) := ⟨_, rfl⟩
 have HW : Hid (Blk W C zCfg 26 ∧ Keeps (fun _ => False) w W ∧ C = w.heap.size) := by rw [hW, hC]; exact ⟨Blk.new w _ _, (Keeps.refl _ w).alloc _, rfl⟩
 rw [← hW, ← hC]
 clear hW hC
 have HR := read_any B a cap W (HS.out.1.keptB HW.out.2.1 fun _ _ _ e => e) (by have := HS.out; omega) HS.out.2.2.2.1 (fun h1 y h2 => Nat.lt_of_lt_of_le (HS.out.2.2.1 h1 y h2) HW.out.2.1.size)
 rw [HS.out.2.1] at HR
 refine HR.mono ?_
 clear HR
 intro e w2 hP
 obtain ⟨m1, m2, m3, m4, ca, L1, cc, pa, L2, pc, ha, L3, hc, q, k, rfl, hK2, hres⟩ := hP.open
 clear hP
 obtain ⟨W4, hW4⟩ : ∃ W4, W4 = (w2.alloc (.cells #[.int .i64 m1, .int .i64 m2, .int .i64 m3, .int .i64 m4, .slice ca L1 cc, .slice pa L2 pc, .slice ha L3 hc] 26)).alloc (.cells #[.int .i64 q, .int .i64 k] 94) := ⟨_, rfl⟩
 obtain ⟨T, hT⟩ : ∃ T, T = w2.heap.size := ⟨_, rfl⟩
 have hKW : Keeps (fun _ => False) w2 W4 := by rw [hW4]; exact ((Keeps.refl _ _).alloc _).alloc _
 have H2 : Hid (Keeps (fun _ => False) W w2 ∧ Keeps (fun _ => False) w2 W4 ∧ ((∃ x : Cfg, dec B = .ok x.pure ∧ x.vs = [.int .i64 m1, .int .i64 m2, .int .i64 m3, .int .i64 m4, .slice ca L1 cc, .slice pa L2 pc, .slice ha L3 hc] ∧ q = 0 ∧ k = 0 ∧ x.Lsts w2 W.heap.size) ∨ (dec B = .error (q, k) ∧ [.int .i64 m1, .int .i64 m2, .int .i64 m3, .int .i64 m4, .slice ca L1 cc, .slice pa L2 pc, .slice ha L3 hc] = zCfg)) ∧ T = w2.heap.size ∧ Blk W4 T [.int .i64 m1, .int .i64 m2, .int .i64 m3, .int .i64 m4, .slice ca L1 cc, .slice pa L2 pc, .slice ha L3 hc] 26 ∧ Blk W4 (T + 1) [.int .i64 q, .int .i64 k] 94 ∧ Blk W4 C zCfg 26 ∧ C < T) := by
  refine ⟨hK2, hKW, hres, hT, by rw [hW4, hT]; exact (Blk.new _ _ _).alloc _, ?_, (HW.out.1.kept hK2 fun e => e).kept hKW fun e => e, ?_⟩
  ·
   rw [hW4, hT]; have := Blk.new (w2.alloc (.cells #[.int .i64 m1, .int .i64 m2, .int .i64 m3, .int .i64 m4, .slice ca L1 cc, .slice pa L2 pc, .slice ha L3 hc] 26)) #[.int .i64 q, .int .i64 k] 94; simpa using this
  ·
   rw [hT]; exact Nat.lt_of_lt_of_le HW.out.1.lt hK2.size
 clear hK2 hres hKW
 go_wp2
 rw [← hW4, ← hT]
 clear hW4 hT
 have hb4 := H2.out.2.2.2.2.1.drew
 have hd4 := H2.out.2.2.2.2.2.1.drew
 refine wp_region_held_drew (S := fun w' => w'.cell? ⟨T, 0, none⟩ = some (.int .i64 m1) ∧ w'.cell? ⟨T, 1, none⟩ = some (.int .i64 m2) ∧ w'.cell? ⟨T, 2, none⟩ = some (.int .i64 m3) ∧ w'.cell? ⟨T, 3, none⟩ = some (.int .i64 m4) ∧ w'.cell? ⟨T, 4, none⟩ = some (.slice ca L1 cc) ∧ w'.cell? ⟨T, 5, none⟩ = some (.slice pa L2 pc) ∧ w'.cell? ⟨T, 6, none⟩ = some (.slice ha L3 hc) ∧ w'.cell? ⟨T + 1, 0, none⟩ = some (.int .i64 q) ∧ w'.cell? ⟨T + 1, 1, none⟩ = some (.int .i64 k)) (by kernel_rfl) ⟨hb4.cell (i := 0) rfl, hb4.cell (i := 1) rfl, hb4.cell (i := 2) rfl, hb4.cell (i := 3) rfl, hb4.cell (i := 4) rfl, hb4.cell (i := 5) rfl, hb4.cell (i := 6) rfl, hd4.cell (i := 0) rfl, hd4.cell (i := 1) rfl⟩ (fun hHeld => ?_)
 simp only [List.size_toArray, List.length_cons, List.length_nil, Nat.reduceAdd, Array.replicate_succ, Array.replicate_zero, List.push_toArray, List.append_toArray, List.nil_append, List.cons_append]
 refine wpAnyH_take (i := 0) (oi := ⟨some 16, .load 26 (.tmp 5), 26, "conf.go:38", #[], none⟩) (v := .agg #[.int .i64 m1, .int .i64 m2, .int .i64 m3, .int .i64 m4, .slice ca L1 cc, .slice pa L2 pc, .slice ha L3 hc]) rfl (by kernel_rfl) (by kernel_rfl) (by kernel_rfl) (fun _ _ _ h => h) (Or.inl ⟨by rfl, by (intro w hSw; (try dsimp only at hSw); go_simp)⟩) hHeld ?_
 simp only [Act.put, s1, s2, s3]
 refine wpAnyH_take (i := 1) (oi := ⟨some 17, .fieldAddr 94 (.tmp 6) 0, 0, "conf.go:38", #[⟨5, .gcOnly .lateStores⟩], none⟩) (v := .pointer (some ⟨T + 1, 0, none⟩)) rfl (by kernel_rfl) (by kernel_rfl) (by kernel_rfl) (fun _ _ _ h => h) (Or.inl ⟨by rfl, by (intro w hSw; (try dsimp only at hSw); go_simp)⟩) hHeld ?_
 simp only [Act.put, s1, s2, s3]
 refine wpAnyH_take (i := 2) (oi := ⟨some 18, .load 3 (.tmp 17), 3, "conf.go:38", #[⟨1, .data⟩, ⟨5, .gcOnly .lateStores⟩], none⟩) (v := .int .i64 q) rfl (by kernel_rfl) (by kernel_rfl) (by kernel_rfl) (fun _ _ _ h => h) (Or.inl ⟨by rfl, by (intro w hSw; (try dsimp only at hSw); go_simp)⟩) hHeld ?_
 simp only [Act.put, s1, s2, s3]
 refine wpAnyH_take (i := 3) (oi := ⟨some 19, .fieldAddr 94 (.tmp 6) 1, 0, "conf.go:38", #[⟨6, .gcOnly .lateStores⟩], none⟩) (v := .pointer (some ⟨T + 1, 1, none⟩)) rfl (by kernel_rfl) (by kernel_rfl) (by kernel_rfl) (fun _ _ _ h => h) (Or.inl ⟨by rfl, by (intro w hSw; (try dsimp only at hSw); go_simp)⟩) hHeld ?_
 simp only [Act.put, s1, s2, s3]
 refine wpAnyH_take (i := 4) (oi := ⟨some 20, .load 28 (.tmp 19), 28, "conf.go:38", #[⟨3, .data⟩, ⟨6, .gcOnly .lateStores⟩], none⟩) (v := .int .i64 k) rfl (by kernel_rfl) (by kernel_rfl) (by kernel_rfl) (fun _ _ _ h => h) (Or.inl ⟨by rfl, by (intro w hSw; (try dsimp only at hSw); go_simp)⟩) hHeld ?_
 simp only [Act.put, s1, s2, s3]
 refine wpAnyH_ready (rs := [5]) (by kernel_rfl) (by simp) ?_
 refine AllReadyH.cons (o := ⟨none, .store 26 (.tmp 2) (.tmp 16), 0, "conf.go:38", #[⟨0, .data⟩, ⟨0, .phase⟩, ⟨1, .textOnly .lateStores⟩, ⟨2, .textOnly .lateStores⟩, ⟨3, .textOnly .lateStores⟩, ⟨4, .textOnly .lateStores⟩], none⟩) rfl (fun K hK => ?_) AllReadyH.nil
 rw [if_pos (by rfl)]
 have hc4 := H2.out.2.2.2.2.2.2.1.drew
 refine wp_store_row 26 _ _ rfl C #[.int .i64 m1, .int .i64 m2, .int .i64 m3, .int .i64 m4, .slice ca L1 cc, .slice pa L2 pc, .slice ha L3 hc] rfl rfl 26 _ hc4 Tryz.size26 rfl (all26 ..) ?_
 have hb5 := hb4.setRow_ne (k := C) (by have := H2.out.2.2.2.2.2.2.2; omega) #[.int .i64 m1, .int .i64 m2, .int .i64 m3, .int .i64 m4, .slice ca L1 cc, .slice pa L2 pc, .slice ha L3 hc]
 have hd5 := hd4.setRow_ne (k := C) (by have := H2.out.2.2.2.2.2.2.2; omega) #[.int .i64 m1, .int .i64 m2, .int .i64 m3, .int .i64 m4, .slice ca L1 cc, .slice pa L2 pc, .slice ha L3 hc]
 refine hK.out _ _ ⟨hb5.cell (i := 0) rfl, hb5.cell (i := 1) rfl, hb5.cell (i := 2) rfl, hb5.cell (i := 3) rfl, hb5.cell (i := 4) rfl, hb5.cell (i := 5) rfl, hb5.cell (i := 6) rfl, hd5.cell (i := 0) rfl, hd5.cell (i := 1) rfl⟩ (fun hHeld => ?_)
 simp only [Act.put, s1, s2, s3]
 refine wpAnyH_take (i := 6) (oi := ⟨some 3, .assign (.tmp 18), 3, "conf.go:38", #[⟨2, .data⟩, ⟨5, .chain⟩, ⟨0, .phase⟩, ⟨1, .phase⟩, ⟨2, .phase⟩, ⟨3, .textOnly .lateStores⟩, ⟨4, .textOnly .lateStores⟩, ⟨5, .phase⟩], none⟩) (v := .int .i64 q) rfl (by kernel_rfl) (by kernel_rfl) (by kernel_rfl) (fun _ _ _ h => h) (Or.inl ⟨by rfl, by (intro w hSw; (try dsimp only at hSw); go_simp)⟩) hHeld ?_
 simp only [Act.put, s1, s2, s3]
 refine wpAnyH_take (i := 7) (oi := ⟨some 4, .assign (.tmp 20), 28, "conf.go:38", #[⟨4, .data⟩, ⟨6, .chain⟩, ⟨0, .phase⟩, ⟨1, .phase⟩, ⟨2, .phase⟩, ⟨3, .phase⟩, ⟨4, .phase⟩, ⟨5, .phase⟩, ⟨6, .phase⟩], none⟩) (v := .int .i64 k) rfl (by kernel_rfl) (by kernel_rfl) (by kernel_rfl) (fun _ _ _ h => h) (Or.inl ⟨by rfl, by (intro w hSw; (try dsimp only at hSw); go_simp)⟩) hHeld ?_
 simp only [Act.put, s1, s2, s3]
 refine wpAnyH_done (by kernel_rfl) ?_ _
 have hCF := hc4.setRow [.int .i64 m1, .int .i64 m2, .int .i64 m3, .int .i64 m4, .slice ca L1 cc, .slice pa L2 pc, .slice ha L3 hc]
 obtain ⟨F, hF⟩ : ∃ F, F = W4.drew.setRow C #[.int .i64 m1, .int .i64 m2, .int .i64 m3, .int .i64 m4, .slice ca L1 cc, .slice pa L2 pc, .slice ha L3 hc] := ⟨_, rfl⟩
 have hKF : Keeps (· = C) w2 F := by rw [hF]; exact ((H2.out.2.1.mono fun _ _ e => e.elim).drew).setRow C _ fun _ => rfl
 rw [← hF] at hCF ⊢
 have H9 : Hid (Blk F C [.int .i64 m1, .int .i64 m2, .int .i64 m3, .int .i64 m4, .slice ca L1 cc, .slice pa L2 pc, .slice ha L3 hc] 26 ∧ Keeps (· = C) w2 F) := ⟨hCF, hKF⟩
 clear hCF hKF hF hb4 hd4 hc4 hb5 hd5
 go_wp2
 refine bodyPost_ret (results_cell_three rfl _ _ C 26 _ (0, 0) _ rfl H9.out.1 Tryz.underlying26 rfl Tryz.size26) rfl ?_
 have hCw : C = w.heap.size := HW.out.2.2
 have hKall : Keeps (fun _ => False) w F := (HW.out.2.1.trans H2.out.1 fun _ _ e => e).trans H9.out.2 fun b hb e => by omega
 refine ⟨hKall, .inr ⟨HS.out.2.2.2.1, ?_⟩⟩
 rcases H2.out.2.2.1 with ⟨x, h1, h2, rfl, rfl, h5⟩ | ⟨h1, h2⟩
 ·
  refine .inl ⟨x, h1, ?_, ?_⟩
  ·
   have : x.v = .agg x.vs.toArray := rfl
   rw [this, h2]; rfl
  ·
   have hlo : ∀ k, k = C → k < W.heap.size := fun k e => by rw [e]; exact HW.out.1.lt
   have hsz : w.heap.size ≤ W.heap.size := HW.out.2.1.size
   exact ⟨(h5.cs.kept H9.out.2 hlo).mono hsz, (h5.ps.kept H9.out.2 hlo).mono hsz, (h5.hs.kept H9.out.2 hlo).mono hsz, h5.ns⟩
 ·
  exact .inr ⟨q, k, h1, by rw [← h2]; rfl⟩
end Go.Proofs.YthegceijlfflfaaGreat
namespace Go.Proofs.YthegceijlfflfaaGreat
open Go.RowKit
set_option linter.unusedVariables false
set_option maxRecDepth 6000
theorem Cfg.Lsts.in {x : Cfg} {w : World} {lo : Nat} (h : x.Lsts w lo) : x.In w w.heap.size :=
 ⟨h.cs.seg, fun hn y hy => h.cs.blk hn y hy, h.cs.len, fun y hy => Core.Ok.in (h.cs.ok y hy), h.ps.seg, fun hn y hy => h.ps.blk hn y hy, h.ps.len, fun y hy => Par.Ok.in (h.ps.ok y hy),
  h.hs.seg, fun hn y hy => h.hs.blk hn y hy, h.hs.len, h.hs.ok, h.ns⟩
end Go.Proofs.YthegceijlfflfaaGreat
