import Derived.Test.YtjadpbkhfclldaaGreatMi
import Derived.Test.YtjadpbkhfclldaaGreatJPx
import Derived.Test.YtjadpbkhfclldaaGreatJOa
namespace Go.Proofs.YtjadpbkhfclldaaGreat
open Go.RowKit Gw
set_option linter.unusedVariables false
set_option linter.unusedSimpArgs false
set_option maxRecDepth 8000

/-- What a row begins with is a row of one's own. -/
theorem Fam.pre {α : Type} (E : Elem α) {ty : Nat → Nat → TypeId × Nat} {lo : Nat} {w : World} {O : Nat → Nat → ObG} (h : Fam ty lo w O) (a b : Nat) (hty : ty a b = (E.ety, E.k)) (ls : List α) (rest : List Value) (hx : (O a b).xs = ls.flatMap E.vs ++ rest) (hn : ls.length ≤ (O a b).n) :
    w.ownsRow 0 E.ety E.k (.slice (adO (O a b).u) ls.length (cpO (O a b).u)) ls.length (ls.flatMap E.vs) := by
  have ho := h.own a b
  have hu := (h.ad a b).1
  rw [hx, hty] at ho
  generalize adO (O a b).u = ad at hu ⊢
  generalize cpO (O a b).u = cp at hu ⊢
  rw [hu] at ho
  rcases ho.2 with ⟨e, h0⟩ | ⟨g, cap, cur, e, _⟩
  · injection e with e1 e2 e3
    subst e1 e3
    have : ls = [] := List.eq_nil_of_length_eq_zero (by omega)
    subst this
    exact ⟨by simp, .inl ⟨rfl, rfl⟩⟩
  · injection e with e1 e2 e3
    subst e1
    exact owns_prefix (flat_len E ls) hn ho
theorem bk_u {ty : Nat → Nat → TypeId × Nat} {lo : Nat} {w : World} {O : Nat → Nat → ObG} (h : Fam ty lo w O) (a b : Nat) {k : Nat} : k ∈ bk (adO (O a b).u) ↔ (O a b).u.ownBlock = some k := by
  rw [bk_mem (n := (O a b).n) (c := cpO (O a b).u), ← (h.ad a b).1]

theorem flat_congr {α β : Type} {f g : α → List β} : ∀ {l : List α}, (∀ i ∈ l, f i = g i) → l.flatMap f = l.flatMap g
  | [], _ => rfl
  | a :: r, h => by rw [List.flatMap_cons, List.flatMap_cons, h a (by simp), flat_congr fun i hi => h i (List.mem_cons_of_mem _ hi)]
/-- What Roomed answers is one's own. -/
theorem room_lst {y : Cfg} {lo N : Nat} {w w0 : World} {O : Nat → Nat → ObG} (hF : FamO lo w O) (h : RP y y.cs.length y.ps.length y.hs 12 O) (hy : y.In w0 N) : (cfgO y O).LstsR w lo := by
  have hl1 : (cfgO y O).cs.length = y.cs.length := by simp [cfgO]
  have hl2 : (cfgO y O).ps.length = y.ps.length := by simp [cfgO]
  have g1 : ∀ j X, (cfgO y O).cs[j]? = some X → j < y.cs.length ∧ X = coreO y O j := fun j X hX => by
    have hj : j < y.cs.length := by rw [← hl1]; exact get_lt hX
    refine ⟨hj, ?_⟩
    simp [cfgO, hj] at hX
    exact hX.symm
  have g2 : ∀ j P, (cfgO y O).ps[j]? = some P → j < y.ps.length ∧ P = parO y O j := fun j P hP => by
    have hj : j < y.ps.length := by rw [← hl2]; exact get_lt hP
    refine ⟨hj, ?_⟩
    simp [cfgO, hj] at hP
    exact hP.symm
  have f1 : (cfgO y O).cs.flatMap Core.vs = apN (fun i => [cut (wsO y i).length (O 1 i).u]) y.cs.length := by
    show ((List.range y.cs.length).map (coreO y O)).flatMap Core.vs = _
    unfold apN
    rw [List.flatMap_map]
    congr 1
    funext i
    have e := (hF.ad 1 i).1
    show [Value.slice (adO (O 1 i).u) (wsO y i).length (cpO (O 1 i).u)] = _
    generalize (O 1 i).u = u at e ⊢
    rw [e]
    rfl
  have f2 : (cfgO y O).ps.flatMap Par.vs = apN (fun i => parC y i (cut (rsO y i).length (O 2 i).u) (cut (psO y i).length (O 3 i).u)) y.ps.length := by
    show ((List.range y.ps.length).map (parO y O)).flatMap Par.vs = _
    unfold apN
    rw [List.flatMap_map]
    refine flat_congr fun i hi => ?_
    obtain ⟨P, hP⟩ : ∃ P, y.ps[i]? = some P := ⟨_, List.getElem?_eq_getElem (List.mem_range.1 hi)⟩
    have e := (hF.ad 2 i).1
    have e' := (hF.ad 3 i).1
    rw [parO_some hP, parC_some hP, rsO_some hP, psO_some hP]
    generalize (O 2 i).u = u at e ⊢
    generalize (O 3 i).u = u' at e' ⊢
    rw [e, e']
    rfl
  have o1 : w.ownsRow 0 43 1 (.slice (cfgO y O).ca (cfgO y O).cs.length (cfgO y O).cc) (cfgO y O).cs.length ((cfgO y O).cs.flatMap Core.vs) := hF.pre eCore 0 0 rfl _ _ (by rw [show (cfgO y O).cs.flatMap eCore.vs = (cfgO y O).cs.flatMap Core.vs from rfl, f1]; exact h.c0) (by rw [hl1]; have := h.c0n; omega)
  have o2 : w.ownsRow 0 47 8 (.slice (cfgO y O).pa (cfgO y O).ps.length (cfgO y O).pc) (cfgO y O).ps.length ((cfgO y O).ps.flatMap Par.vs) := hF.pre ePar 0 2 rfl _ _ (by rw [show (cfgO y O).ps.flatMap ePar.vs = (cfgO y O).ps.flatMap Par.vs from rfl, f2]; exact h.c2) (by rw [hl2]; have := h.c2n; omega)
  have o3 : w.ownsRow 0 57 3 (.slice (cfgO y O).ha (cfgO y O).hs.length (cfgO y O).hc) (cfgO y O).hs.length ((cfgO y O).hs.flatMap Chn.vs) := hF.pre eChn 0 5 rfl y.hs _ h.c5 (by have := h.c5n; omega)
  have oc : ∀ j, j < y.cs.length → (coreO y O j).OkR w := fun j hj => by
    obtain ⟨X, hX⟩ : ∃ X, y.cs[j]? = some X := ⟨_, List.getElem?_eq_getElem hj⟩
    have hi := h.i1 j hj
    have ho : w.ownsRow 0 51 3 (.slice (coreO y O j).a (coreO y O j).ws.length (coreO y O j).c) (coreO y O j).ws.length ((coreO y O j).ws.flatMap Win.vs) := hF.pre eWin 1 j rfl (wsO y j) _ hi.2 (by omega)
    refine ⟨⟨own_seg (E := eWin) ho, ?_, ?_⟩, ho⟩
    · have := (hF.ad 1 j).2
      exact ⟨Nat.le_trans (by show (wsO y j).length ≤ (O 1 j).n; omega) this.1, this.2⟩
    · show ∀ z ∈ wsO y j, z.Fine
      rw [wsO_some hX]
      exact (hy.cin X (List.mem_of_getElem? hX)).fine
  have op : ∀ j, j < y.ps.length → (parO y O j).OkR w := fun j hj => by
    obtain ⟨P, hP⟩ : ∃ X, y.ps[j]? = some X := ⟨_, List.getElem?_eq_getElem hj⟩
    have hi := h.i2 j hj
    have hi3 := h.i3 j hj
    have hpi := hy.pin P (List.mem_of_getElem? hP)
    rw [rsO_some hP] at hi
    rw [psO_some hP] at hi3
    have ho : w.ownsRow 0 53 4 (.slice (adO (O 2 j).u) P.rs.length (cpO (O 2 j).u)) P.rs.length (P.rs.flatMap Rgn.vs) := hF.pre eRgn 2 j rfl P.rs _ hi.2 (by omega)
    have ho3 : w.ownsRow 0 55 2 (.slice (adO (O 3 j).u) P.ps.length (cpO (O 3 j).u)) P.ps.length (P.ps.flatMap Prt.vs) := hF.pre ePrt 3 j rfl P.ps _ hi3.2 (by omega)
    have a2 := (hF.ad 2 j).2
    have a3 := (hF.ad 3 j).2
    rw [parO_some hP]
    exact ⟨⟨own_seg (E := eRgn) ho, ⟨Nat.le_trans (show P.rs.length ≤ (O 2 j).n by have := hi.1; omega) a2.1, a2.2⟩, hpi.rfine, own_seg (E := ePrt) ho3, ⟨Nat.le_trans (show P.ps.length ≤ (O 3 j).n by have := hi3.1; omega) a3.1, a3.2⟩, hpi.pfine, hpi.ns, hpi.name⟩, ho, ho3, fun k h1 h2 => hF.dis 2 j 3 j k (by omega) ((bk_u hF 2 j).1 h1) ((bk_u hF 3 j).1 h2)⟩
  have bC : ∀ {k}, Lall eCoreR (cfgO y O).ca (cfgO y O).cs k → ∃ a b, (O a b).u.ownBlock = some k ∧ (a = 0 ∧ b = 0 ∨ a = 1) := by
    rintro k (hk | ⟨X, hX, hk⟩)
    · exact ⟨0, 0, (bk_u hF 0 0).1 hk, .inl ⟨rfl, rfl⟩⟩
    · obtain ⟨j, hj⟩ := List.getElem?_of_mem hX
      obtain ⟨_, rfl⟩ := g1 j X hj
      exact ⟨1, j, (bk_u hF 1 j).1 hk, .inr rfl⟩
  have blP : ∀ {j k}, j < y.ps.length → k ∈ (parO y O j).blR → ∃ a, (O a j).u.ownBlock = some k ∧ (a = 2 ∨ a = 3) := by
    intro j k hj hk
    obtain ⟨P, hP⟩ : ∃ X, y.ps[j]? = some X := ⟨_, List.getElem?_eq_getElem hj⟩
    rw [parO_some hP] at hk
    rcases List.mem_append.1 hk with hk | hk
    · exact ⟨2, (bk_u hF 2 j).1 hk, .inl rfl⟩
    · exact ⟨3, (bk_u hF 3 j).1 hk, .inr rfl⟩
  have bP : ∀ {k}, Lall eParR (cfgO y O).pa (cfgO y O).ps k → ∃ a b, (O a b).u.ownBlock = some k ∧ (a = 0 ∧ b = 2 ∨ a = 2 ∨ a = 3) := by
    rintro k (hk | ⟨X, hX, hk⟩)
    · exact ⟨0, 2, (bk_u hF 0 2).1 hk, .inl ⟨rfl, rfl⟩⟩
    · obtain ⟨j, hj⟩ := List.getElem?_of_mem hX
      obtain ⟨hjl, rfl⟩ := g2 j X hj
      obtain ⟨a, h1, h2⟩ := blP hjl hk
      exact ⟨a, j, h1, .inr h2⟩
  have bH : ∀ {k}, Lall eChn (cfgO y O).ha (cfgO y O).hs k → (O 0 5).u.ownBlock = some k := by
    rintro k (hk | ⟨X, hX, hk⟩)
    · exact (bk_u hF 0 5).1 hk
    · cases hk
  have szC : ∀ {k}, Lall eCoreR (cfgO y O).ca (cfgO y O).cs k → lo ≤ k ∧ k < w.heap.size := fun hk => by
    obtain ⟨a, b, h1, _⟩ := bC hk; exact ⟨hF.low a b _ h1, hF.lt h1⟩
  have szP : ∀ {k}, Lall eParR (cfgO y O).pa (cfgO y O).ps k → lo ≤ k ∧ k < w.heap.size := fun hk => by
    obtain ⟨a, b, h1, _⟩ := bP hk; exact ⟨hF.low a b _ h1, hF.lt h1⟩
  have szH : ∀ {k}, Lall eChn (cfgO y O).ha (cfgO y O).hs k → lo ≤ k ∧ k < w.heap.size := fun hk => ⟨hF.low 0 5 _ (bH hk), hF.lt (bH hk)⟩
  have lowOf : ∀ {β : Type} {ad : Option Addr} {l : List β}, (∀ k ∈ bk ad, lo ≤ k) → l ≠ [] → ∀ a, ad = some a → lo ≤ a.block := fun hh _ a ha => hh _ (by rw [ha]; simp [bk])
  refine ⟨⟨⟨own_seg (E := eCoreR) o1, ⟨by rw [hl1]; have := (hF.ad 0 0).2.1; have := h.c0n; exact Nat.le_trans (by omega) (hF.ad 0 0).2.1, (hF.ad 0 0).2.2⟩, lowOf fun k hk => (szC (.inl hk)).1, fun X hX => ?_, fun X hX k hk => szC (.inr ⟨X, hX, hk⟩)⟩, o1, fun k hk => (szC (.inl hk)).1, fun X hX k hk hk2 => ?_, ?_⟩,
    ⟨⟨own_seg (E := eParR) o2, ⟨by rw [hl2]; have := h.c2n; exact Nat.le_trans (by omega) (hF.ad 0 2).2.1, (hF.ad 0 2).2.2⟩, lowOf fun k hk => (szP (.inl hk)).1, fun X hX => ?_, fun X hX k hk => szP (.inr ⟨X, hX, hk⟩)⟩, o2, fun k hk => (szP (.inl hk)).1, fun X hX k hk hk2 => ?_, ?_⟩,
    ⟨⟨own_seg (E := eChn) o3, ⟨by show y.hs.length ≤ _; have := h.c5n; exact Nat.le_trans (by omega) (hF.ad 0 5).2.1, (hF.ad 0 5).2.2⟩, lowOf fun k hk => (szH (.inl hk)).1, hy.hfine, fun X hX k hk => (by cases hk)⟩, o3, fun k hk => (szH (.inl hk)).1, fun X hX k hk => (by cases hk), List.pairwise_iff_getElem.2 fun _ _ _ _ _ b (hb : b ∈ []) => (by cases hb)⟩,
    hy.ns, fun k h1 h2 => ?_, fun k h1 h2 => ?_, fun k h1 h2 => ?_⟩
  · obtain ⟨j, hj⟩ := List.getElem?_of_mem hX
    obtain ⟨hjl, rfl⟩ := g1 j X hj
    exact oc j hjl
  · obtain ⟨j, hj⟩ := List.getElem?_of_mem hX
    obtain ⟨hjl, rfl⟩ := g1 j X hj
    exact hF.dis 1 j 0 0 k (by omega) ((bk_u hF 1 j).1 hk) ((bk_u hF 0 0).1 hk2)
  · rw [List.pairwise_iff_getElem]
    intro i j hi hj hij k h1 h2
    obtain ⟨_, e1⟩ := g1 i _ (List.getElem?_eq_getElem hi)
    obtain ⟨_, e2⟩ := g1 j _ (List.getElem?_eq_getElem hj)
    rw [e1] at h1
    rw [e2] at h2
    exact hF.dis 1 i 1 j k (by omega) ((bk_u hF 1 i).1 h1) ((bk_u hF 1 j).1 h2)
  · obtain ⟨j, hj⟩ := List.getElem?_of_mem hX
    obtain ⟨hjl, rfl⟩ := g2 j X hj
    exact op j hjl
  · obtain ⟨j, hj⟩ := List.getElem?_of_mem hX
    obtain ⟨hjl, rfl⟩ := g2 j X hj
    obtain ⟨a, h1, h2⟩ := blP hjl hk
    exact hF.dis a j 0 2 k (by omega) h1 ((bk_u hF 0 2).1 hk2)
  · rw [List.pairwise_iff_getElem]
    intro i j hi hj hij k h1 h2
    obtain ⟨li, e1⟩ := g2 i _ (List.getElem?_eq_getElem hi)
    obtain ⟨lj, e2⟩ := g2 j _ (List.getElem?_eq_getElem hj)
    rw [e1] at h1
    rw [e2] at h2
    obtain ⟨a, p1, _⟩ := blP li h1
    obtain ⟨b, p2, _⟩ := blP lj h2
    exact hF.dis a i b j k (by omega) p1 p2
  · obtain ⟨a, b, p1, p2⟩ := bC h1
    obtain ⟨c, d, q1, q2⟩ := bP h2
    exact hF.dis a b c d k (by omega) p1 q1
  · obtain ⟨a, b, p1, p2⟩ := bC h1
    exact hF.dis a b 0 5 k (by omega) p1 (bH h2)
  · obtain ⟨a, b, p1, p2⟩ := bP h1
    exact hF.dis a b 0 5 k (by omega) p1 (bH h2)
end Go.Proofs.YtjadpbkhfclldaaGreat
namespace Go.Proofs.YtjadpbkhfclldaaGreat
open Go.RowKit Gw
set_option linter.unusedVariables false
set_option linter.unusedSimpArgs false
set_option maxRecDepth 8000

/-- The program's Decode of a configuration's form. -/
theorem dec_k (x : Cfg) (hd : x.d = false) (F : Nat) (hF : F = (form x).length) (hl : F ≤ 16384) (hf : form x = pform x.pure) (hpd : x.pure.d = x.d) (a : Option Addr) (cap : Nat) (w : World) (hs : Seg w a (form x)) (hcap : F ≤ cap ∧ cap ≤ maxLen) :
    Calls Tryz.prog 26 #[.slice a F cap] w fun e w' => Keeps (fun _ => False) w w' ∧ ∃ z : Cfg, z.pure = x.pure ∧ e = .returned (.tuple #[z.v, .int .i64 0, .int .i64 0]) ∧ z.LstsR w' w.heap.size := by
  subst hF
  refine (decode_short (form x) a cap w hs hcap hl fun hne y hy => ?_).mono fun e w' h => ?_
  · rcases hs with h | ⟨g, o, h1, h2⟩
    · exact (hne h).elim
    · rw [h1] at hy
      cases hy
      have hpos : 0 < (form x).length := List.length_pos_iff.2 hne
      exact World.block_lt_of_cell? w _ (h2 0 hpos)
  · have hdec : dec (form x) = .ok x.pure := by rw [hf]; exact dec_form x.pure (by rw [hpd]; exact hd)
    obtain ⟨hK, ⟨h1, _⟩ | ⟨_, ⟨z, h1, h2, h3⟩ | ⟨q, k, h1, _⟩⟩⟩ := h
    · omega
    · rw [hdec] at h1
      exact ⟨hK, z, (Except.ok.inj h1).symm, h2, h3⟩
    · rw [hdec] at h1; cases h1
/-- Decode of any bytes that are not too many, by the program, told as the document's is. -/
theorem dec_any (B : List UInt8) (hB : B.length ≤ 16384) (a : Option Addr) (cap : Nat) (w : World) (hs : Seg w a B) (hcap : B.length ≤ cap ∧ cap ≤ maxLen) (hlt : B ≠ [] → ∀ y, a = some y → y.block < w.heap.size) :
    Calls Tryz.prog 26 #[.slice a B.length cap] w (DecP w B) :=
  (decode_short B a cap w hs hcap hB hlt).mono fun e w' h => by
    obtain ⟨hK, h1 | ⟨h0, ⟨z, h1, h2, h3⟩ | h1⟩⟩ := h
    · exact ⟨hK, .inl h1⟩
    · exact ⟨hK, .inr ⟨h0, .inl ⟨z, h1, h2, h3.lsts⟩⟩⟩
    · exact ⟨hK, .inr ⟨h0, .inr h1⟩⟩
theorem seg_spareK {w : World} {B N : Nat} {ks : List UInt8} (h : Blk w B (fK N (spareK ks)) 5) (hN : ks.length ≤ N) : Seg w (some ⟨B, 0, none⟩) ks := by
  refine .inr ⟨B, 0, rfl, fun j hj => ?_⟩
  rw [Nat.zero_add]
  have := h.cell (fK_get (spareK ks) (show j < N by omega))
  rw [this]
  simp [spareK, hj]
/-- A handed list is a row of one's own. -/
theorem own_spareK {w : World} {B n : Nat} {ks : List UInt8} (h : Blk w B (fK (n + 70) (spareK ks)) 5) (hn : n = ks.length) (hl : n ≤ 16384) : w.ownsRow 0 5 1 (.slice (some ⟨B, 0, none⟩) n (n + 70)) n (bvs ks) := by
  refine ⟨by rw [bvs_length]; omega, .inr ⟨B, n + 70, (fK (n + 70) (spareK ks)).toArray, rfl, Nat.zero_le _, h, by omega, by unfold maxLen; omega, by simp [fK_length], ?_⟩⟩
  rw [Nat.mul_one]
  apply List.ext_getElem?
  intro i
  rw [List.getElem?_take]
  by_cases hi : i < n
  · have hik : i < ks.length := by omega
    rw [if_pos hi, fK_get _ (by omega), bvs_get ks i hik]
    simp [spareK, hik]
  · rw [if_neg hi, List.getElem?_eq_none (by rw [bvs_length]; omega)]
/-- So is what was written. -/
theorem own_bytes {w : World} {g : Nat} {xs : List UInt8} (h : Blk w g (bvs xs) 5) (hl : xs.length ≤ 16384) : w.ownsRow 0 5 1 (.slice (some ⟨g, 0, none⟩) xs.length xs.length) xs.length (bvs xs) := by
  refine ⟨by rw [bvs_length]; omega, .inr ⟨g, xs.length, (bvs xs).toArray, rfl, Nat.zero_le _, h, Nat.le_refl _, by unfold maxLen; omega, by simp [bvs_length], ?_⟩⟩
  rw [Nat.mul_one, ← bvs_length xs]
  exact List.take_length
theorem seg_ownB {w : World} {a : Option Addr} {n c : Nat} {ys : List UInt8} (h : w.ownsRow 0 5 1 (.slice a n c) n (bvs ys)) : Seg w a ys := by
  by_cases h0 : ys = []
  · exact .inl h0
  · have hl : ys.length = n := by have := h.1; rw [bvs_length] at this; omega
    have hpos : 0 < ys.length := List.length_pos_iff.2 h0
    obtain ⟨g, hg⟩ := own_addr h (by omega)
    subst hg
    refine .inr ⟨g, 0, rfl, fun j hj => ?_⟩
    rw [Nat.zero_add]
    exact own_cell h (bvs_get ys j hj)
end Go.Proofs.YtjadpbkhfclldaaGreat
namespace Go.Proofs.YtjadpbkhfclldaaGreat
open Go.RowKit Gw
set_option linter.unusedVariables false
set_option linter.unusedSimpArgs false
set_option maxRecDepth 8000

/-- What stands while bytes are taken: the bytes that were wanted, and the configuration that was. -/
structure TK (gb P N C : Nat) (fm : List UInt8) (wa : Option Addr) (was : Cfg) (w : World) : Prop where
  sg : Seg w wa fm
  si : was.In w N
  bx : Blk w C was.vs 26
  ne : ∀ y, wa = some y → y.block ≠ gb ∧ y.block < P
  c : C ≠ gb ∧ C < P
  n : N ≤ gb ∧ N ≤ P
  sz : P ≤ w.heap.size
theorem TK.kept {gb P N C : Nat} {fm : List UInt8} {wa : Option Addr} {was : Cfg} {w w' : World} (h : TK gb P N C fm wa was w) (hK : Keeps (fun k => k = gb ∨ P ≤ k) w w') : TK gb P N C fm wa was w' :=
  ⟨h.sg.kept hK fun y hy hs => by have := h.ne y hy; omega, h.si.below (hK.below (Nat.le_trans h.n.2 h.sz) fun b hb => by have := h.n; omega), h.bx.kept hK fun hs => by have := h.c; omega, h.ne, h.c, h.n, Nat.le_trans h.sz hK.size⟩
theorem TK.grown {gb P N C : Nat} {fm : List UInt8} {wa : Option Addr} {was : Cfg} {w w' : World} (h : TK gb P N C fm wa was w) (hK : Keeps (fun _ => False) w w') : TK gb P N C fm wa was w' := h.kept (hK.mono fun _ _ e => e.elim)
theorem bnd_sk {x y : Cfg} (h : y.sk = x.sk) (hb : Bnd x) : Bnd y := by
  obtain ⟨_, _, _, h1, _, _, h2, _, _, h3⟩ := sk_parts h
  obtain ⟨l1, l2, l3⟩ := sk_len h
  refine ⟨by rw [l1]; exact hb.cs, by rw [l2]; exact hb.ps, by rw [l3]; exact hb.hs, fun X hX => ?_, fun X hX => ?_, fun X hX => ?_⟩
  · obtain ⟨j, hj⟩ := List.getElem?_of_mem hX
    obtain ⟨Y, hY, e⟩ := map_at Core.sk h1 hj
    simp only [Core.sk, Prod.mk.injEq] at e
    rw [e.2.2]
    exact hb.ws Y (List.mem_of_getElem? hY)
  · obtain ⟨j, hj⟩ := List.getElem?_of_mem hX
    obtain ⟨Y, hY, e⟩ := map_at Par.sk h2 hj
    simp only [Par.sk, Prod.mk.injEq] at e
    rw [e.2.2.2.2.1]
    exact hb.rs Y (List.mem_of_getElem? hY)
  · obtain ⟨j, hj⟩ := List.getElem?_of_mem hX
    obtain ⟨Y, hY, e⟩ := map_at Par.sk h2 hj
    simp only [Par.sk, Prod.mk.injEq] at e
    rw [e.2.2.2.2.2.2.2]
    exact hb.qs Y (List.mem_of_getElem? hY)
theorem bnd_pure {x y : Cfg} (h : y.pure = x.pure) (hb : Bnd x) : Bnd y := by
  obtain ⟨l1, l2, l3⟩ := pure_len h
  have h1 : y.cs.map Core.ws = x.cs.map Core.ws := congrArg PCfg.cs h
  have h2 : y.ps.map Par.pure = x.ps.map Par.pure := congrArg PCfg.ps h
  refine ⟨by rw [l1]; exact hb.cs, by rw [l2]; exact hb.ps, by rw [l3]; exact hb.hs, fun X hX => ?_, fun X hX => ?_, fun X hX => ?_⟩
  · obtain ⟨j, hj⟩ := List.getElem?_of_mem hX
    obtain ⟨Y, hY, e⟩ := map_at Core.ws h1 hj
    rw [e]; exact hb.ws Y (List.mem_of_getElem? hY)
  · obtain ⟨j, hj⟩ := List.getElem?_of_mem hX
    obtain ⟨Y, hY, e⟩ := map_at Par.pure h2 hj
    rw [show X.rs = Y.rs from congrArg PPar.rs e]; exact hb.rs Y (List.mem_of_getElem? hY)
  · obtain ⟨j, hj⟩ := List.getElem?_of_mem hX
    obtain ⟨Y, hY, e⟩ := map_at Par.pure h2 hj
    rw [show X.ps = Y.ps from congrArg PPar.ps e]; exact hb.qs Y (List.mem_of_getElem? hY)
theorem lst_ok {x : Cfg} {w : World} {lo : Nat} (h : x.LstsR w lo) : x.Ok w := h.lsts.in.ok
end Go.Proofs.YtjadpbkhfclldaaGreat
