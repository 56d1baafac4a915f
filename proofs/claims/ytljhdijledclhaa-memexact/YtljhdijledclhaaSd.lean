import Derived.Test.YtljhdijledclhaaRd
namespace Go.Proofs.Ytljhdijledclhaa
open Go.RowKit
set_option linter.unusedVariables false
set_option linter.unusedSimpArgs false

theorem app_two {w : World} (a0 : Option Addr) (n c0 : Nat) (vs : List Value) (hown : w.ownsRow 0 26 1 (.slice a0 n c0) n vs) (a : Addr) (m c : Nat) (news : List Value) (hl : news.length = m) (hm0 : 0 < m) (hnews : ∀ j u, news[j]? = some u → w.cell? (a.add j) = some u) (h1 : ∀ u ∈ news, u.oneCell' = true) (hn : n + m ≤ 8589934592) :
    ∃ v' W', (∀ ty, (Builtin.append_ #[27, 27] ty #[.slice a0 n c0, .slice (some a) m c]).run Try.prog w = .ok v' W') ∧ W'.ownsRow 0 26 1 v' (n + m) (vs ++ news) ∧
      ((v' = .slice a0 (n + m) c0 ∧ Keeps (fun k => some k = (Value.slice a0 n c0).ownBlock) w W') ∨ ((∃ k, v'.ownBlock = some k ∧ w.heap.size ≤ k) ∧ Keeps (fun _ => False) w W')) := by
  obtain ⟨i0, hi, hz, hs, hb⟩ := info_parts Try.info26
  have hbytes : (n + m) * 4 ≤ 140737488355328 := by omega
  have hbig : n + m ≤ 9223372036854775807 := by omega
  obtain ⟨v', W', hr, ho, hfr, hK⟩ := append_many 27 26 i0 (.int .u32 0) 1 4 Try.underlying27 hi hz hs hb rfl (by omega) (.slice a0 n c0) n vs hown a m c news (by omega) hnews h1 (by unfold maxLen; omega) hbytes
  refine ⟨v', W', hr, ho, ?_⟩
  rcases hown.2 with ⟨h0, hn0⟩ | ⟨g, cap, cur, h0, _, hg1, hnc, hcm, hcs, htake⟩
  · right
    cases h0
    have h2 := run_append_nil (P := Try.prog) w 27 0 26 i0 _ Try.underlying27 hi hz a m c news (by rw [hs]; omega) hnews (by omega) (by omega) (by rw [hb]; omega)
    rw [hr] at h2
    have e1 := (Result.ok.inj h2)
    refine ⟨⟨_, by rw [e1.1]; rfl, by simp⟩, ?_⟩
    rw [e1.2]
    exact ((Keeps.refl _ _).drew).alloc _
  · cases h0
    by_cases hroom : n + m ≤ c0
    · left
      refine ⟨?_, hK⟩
      have h2 := run_append_room (P := Try.prog) w 27 0 26 i0 Try.underlying27 hi g n c0 cur hg1 a m c news (by rw [hs]; omega) hnews h1 hroom (by rw [hs, hcs]; omega)
      rw [hr] at h2
      exact (Result.ok.inj h2).1
    · right
      have h2 := run_append_grow (P := Try.prog) w 27 0 26 i0 _ Try.underlying27 hi hz ⟨g, 0, none⟩ n c0 vs (by rw [hs]; exact hown.1) (hown.cells rfl) a m c news (by rw [hs]; omega) hnews (by omega) (by omega) (by
        rw [hb]; exact growslice_fits (by omega) hbytes)
      rw [hr] at h2
      have e1 := (Result.ok.inj h2)
      refine ⟨⟨_, by rw [e1.1]; rfl, by simp⟩, ?_⟩
      rw [e1.2]
      exact ((Keeps.refl _ _).drew).alloc _

theorem app_one {w : World} (x : UInt32) (a0 : Option Addr) (n c0 : Nat) (vs : List Value) (hown : w.ownsRow 0 26 1 (.slice a0 n c0) n vs) (hn : n ≤ 8589934000) :
    ∃ v' W', (∀ ty, (Builtin.append_ #[27, 27] ty #[.slice a0 n c0, .slice (some ⟨w.heap.size, 0, none⟩) 1 1]).run Try.prog (w.alloc (.cells #[.int .u32 (x.toNat : Int)] 26)) = .ok v' W') ∧ W'.ownsRow 0 26 1 v' (n + 1) (vs ++ [.int .u32 (x.toNat : Int)]) ∧
      ((v' = .slice a0 (n + 1) c0 ∧ Keeps (fun k => some k = (Value.slice a0 n c0).ownBlock) w W') ∨ ((∃ k, v'.ownBlock = some k ∧ w.heap.size ≤ k) ∧ Keeps (fun _ => False) w W')) := by
  have hW : Keeps (fun _ => False) w (w.alloc (.cells #[.int .u32 (x.toNat : Int)] 26)) := (Keeps.refl _ w).alloc _
  have hown1 := owns_kept hown hW (fun _ _ h => h)
  obtain ⟨v', W', h1, h2, h3⟩ := app_two a0 n c0 vs hown1 ⟨w.heap.size, 0, none⟩ 1 1 [.int .u32 (x.toNat : Int)] rfl (by omega) (by
    intro j u hj
    have hB := Blk.new w #[.int .u32 (x.toNat : Int)] 26
    rw [addr_add]
    exact hB.cell (by rw [Nat.zero_add]; exact hj)) (by
    intro u hu
    simp at hu
    rw [hu]; rfl) (by omega)
  refine ⟨v', W', h1, h2, ?_⟩
  rcases h3 with ⟨h4, h5⟩ | ⟨⟨k, h4, h5⟩, h6⟩
  · exact .inl ⟨h4, hW.none.trans h5 fun _ _ h => h⟩
  · exact .inr ⟨⟨k, h4, Nat.le_trans hW.size h5⟩, hW.trans h6 fun _ _ h => h⟩

theorem owns_prefix {w : World} {a : Option Addr} {n m c : Nat} {xs ys : List Value} (h : w.ownsRow 0 26 1 (.slice a (n + m) c) (n + m) (xs ++ ys)) (hx : xs.length = n) : w.ownsRow 0 26 1 (.slice a n c) n xs := by
  refine ⟨by rw [hx]; omega, ?_⟩
  rcases h.2 with ⟨h0, hn0⟩ | ⟨g, cap, cur, h0, hb, hg1, hnc, hcm, hcs, htake⟩
  · have : n = 0 := by omega
    have hm : m = 0 := by omega
    subst this hm
    exact .inl ⟨h0, rfl⟩
  · cases h0
    refine .inr ⟨g, c, cur, rfl, hb, hg1, by omega, hcm, hcs, ?_⟩
    have h2 : (cur.toList.take ((n + m) * 1)).take (n * 1) = cur.toList.take (n * 1) := by rw [List.take_take]; congr 1; omega
    rw [← h2, htake, List.take_append_of_le_length (by omega), List.take_of_length_le (by omega)]

theorem own_any (a : Option Addr) (n c m d : Nat) : (Value.slice a n c).ownBlock = (Value.slice a m d).ownBlock := by cases a <;> rfl

def GrI (S : Nat → Prop) (w0 : World) (a : Option Addr) (c : Nat) (xs : List UInt32) (g : UInt32) (p j : Nat) (v mv : Value) (w : World) : Prop :=
  w.ownsRow 0 26 1 (.slice a xs.length c) xs.length (wvs xs) ∧
  w.ownsRow 0 26 1 v (xs.length + p) (wvs (xs ++ List.replicate p g)) ∧
  w.ownsRow 0 26 1 mv j (wvs (List.replicate j g)) ∧
  (v = .slice a (xs.length + p) c ∨ ∃ b, v.ownBlock = some b ∧ w0.heap.size ≤ b) ∧
  (∀ b, mv.ownBlock = some b → w0.heap.size ≤ b ∧ v.ownBlock ≠ some b) ∧
  Keeps (fun k => some k = (Value.slice a xs.length c).ownBlock ∨ S k) w0 w

theorem wvs_app (xs ys : List UInt32) : wvs (xs ++ ys) = wvs xs ++ wvs ys := by simp [wvs]

theorem GrI.start (S : Nat → Prop) (w0 : World) (a : Option Addr) (c : Nat) (xs : List UInt32) (g : UInt32) (h : w0.ownsRow 0 26 1 (.slice a xs.length c) xs.length (wvs xs)) : GrI S w0 a c xs g 0 0 (.slice a xs.length c) (.slice none 0 0) w0 :=
  ⟨h, by simpa using h, ⟨rfl, .inl ⟨rfl, rfl⟩⟩, .inl rfl, (fun b hb => by cases hb), Keeps.refl _ _⟩

theorem GrI.one {S : Nat → Prop} {w0 w : World} {a : Option Addr} {c : Nat} {xs : List UInt32} {g : UInt32} {p j : Nat} {v mv : Value} (h : GrI S w0 a c xs g p j v mv w) (h0 : ∀ b, (Value.slice a xs.length c).ownBlock = some b → b < w0.heap.size) (hx : xs.length ≤ 4294967296) (hp : p ≤ 64) :
    ∃ v' W', (∀ ty, (Builtin.append_ #[27, 27] ty #[v, .slice (some ⟨w.heap.size, 0, none⟩) 1 1]).run Try.prog (w.alloc (.cells #[.int .u32 (g.toNat : Int)] 26)) = .ok v' W') ∧ GrI S w0 a c xs g (p + 1) j v' mv W' := by
  obtain ⟨hu, hv, hm, hfv, hfm, hK⟩ := h
  obtain ⟨av, cv, rfl, -, -⟩ := owns_slice hv
  obtain ⟨v', W', hr, ho, hor⟩ := app_one g av (xs.length + p) cv _ hv (by omega)
  have ho' : W'.ownsRow 0 26 1 v' (xs.length + (p + 1)) (wvs (xs ++ List.replicate (p + 1) g)) := by
    rw [List.replicate_succ', ← List.append_assoc, wvs_app (xs ++ List.replicate p g)]
    exact ho
  refine ⟨v', W', hr, ?_⟩
  rcases hor with ⟨rfl, hKa⟩ | ⟨⟨b, e1, hb⟩, hKa⟩
  · have hmm : W'.ownsRow 0 26 1 mv j (wvs (List.replicate j g)) := owns_kept hm hKa fun k hk e => (hfm k hk).2 e.symm
    rcases hfv with e | ⟨b, e, hb⟩
    · cases e
      refine ⟨owns_prefix (m := p + 1) (ys := wvs (List.replicate (p + 1) g)) (by rw [← wvs_app]; exact ho') (wvs_length _), ho', hmm, .inl rfl, fun b hb => ⟨(hfm b hb).1, fun e => (hfm b hb).2 (by rw [← e]; exact own_any _ _ _ _ _)⟩, hK.trans hKa fun k _ e => .inl (by rw [e]; exact own_any _ _ _ _ _)⟩
    · refine ⟨owns_kept hu hKa fun k hk e2 => ?_, ho', hmm, .inr ⟨b, by rw [← e]; exact own_any _ _ _ _ _, hb⟩, fun b hb => ⟨(hfm b hb).1, fun e => (hfm b hb).2 (by rw [← e]; exact own_any _ _ _ _ _)⟩, hK.trans hKa fun k hk e2 => ?_⟩
      · rw [e] at e2; cases e2
        have := h0 _ hk; omega
      · rw [e] at e2; cases e2; omega
  · refine ⟨owns_kept hu hKa fun _ _ e => e, ho', owns_kept hm hKa fun _ _ e => e, .inr ⟨b, e1, Nat.le_trans hK.size hb⟩, fun b' hb' => ⟨(hfm b' hb').1, fun e => ?_⟩, hK.trans hKa fun _ _ e => e.elim⟩
    rw [e1] at e; cases e
    have := owns_lt hm hb'; omega

theorem GrI.more {S : Nat → Prop} {w0 w : World} {a : Option Addr} {c : Nat} {xs : List UInt32} {g : UInt32} {p j : Nat} {v mv : Value} (h : GrI S w0 a c xs g p j v mv w) (h0 : ∀ b, (Value.slice a xs.length c).ownBlock = some b → b < w0.heap.size) (hj : j ≤ 64) :
    ∃ v' W', (∀ ty, (Builtin.append_ #[27, 27] ty #[mv, .slice (some ⟨w.heap.size, 0, none⟩) 1 1]).run Try.prog (w.alloc (.cells #[.int .u32 (g.toNat : Int)] 26)) = .ok v' W') ∧ GrI S w0 a c xs g p (j + 1) v v' W' := by
  obtain ⟨hu, hv, hm, hfv, hfm, hK⟩ := h
  obtain ⟨av, cv, rfl, -, -⟩ := owns_slice hm
  obtain ⟨v', W', hr, ho, hor⟩ := app_one g av j cv _ hm (by omega)
  have ho' : W'.ownsRow 0 26 1 v' (j + 1) (wvs (List.replicate (j + 1) g)) := by
    rw [List.replicate_succ', wvs_app]
    exact ho
  refine ⟨v', W', hr, ?_⟩
  rcases hor with ⟨rfl, hKa⟩ | ⟨⟨b, e1, hb⟩, hKa⟩
  · refine ⟨owns_kept hu hKa fun k hk e => ?_, owns_kept hv hKa fun k hk e => (hfm k e.symm).2 hk, ho', hfv, fun b hb => hfm b (by rw [← hb]; exact own_any _ _ _ _ _), hK.trans hKa fun k hk e => ?_⟩
    · have := (hfm k e.symm).1; have := h0 k hk; omega
    · have := (hfm k e.symm).1; omega
  · refine ⟨owns_kept hu hKa fun _ _ e => e, owns_kept hv hKa fun _ _ e => e, ho', hfv, fun b' hb' => ?_, hK.trans hKa fun _ _ e => e.elim⟩
    rw [e1] at hb'; cases hb'
    refine ⟨Nat.le_trans hK.size hb, fun e => ?_⟩
    have := owns_lt hv e; omega

def GrD (S : Nat → Prop) (w0 : World) (a : Option Addr) (c : Nat) (xs : List UInt32) (g : UInt32) (v mv : Value) (w : World) : Prop :=
  w.ownsRow 0 26 1 (.slice a xs.length c) xs.length (wvs xs) ∧
  w.ownsRow 0 26 1 v (xs.length + 17) (wvs (xs ++ List.replicate 17 g)) ∧
  w.ownsRow 0 26 1 mv (xs.length + 64) (wvs (xs ++ List.replicate 64 g)) ∧
  (v.ownBlock = (Value.slice a xs.length c).ownBlock ∨ ∃ b, v.ownBlock = some b ∧ w0.heap.size ≤ b) ∧
  (mv.ownBlock = (Value.slice a xs.length c).ownBlock ∨ ∃ b, mv.ownBlock = some b ∧ w0.heap.size ≤ b) ∧
  Keeps (fun k => some k = (Value.slice a xs.length c).ownBlock ∨ S k) w0 w

theorem GrI.last {S : Nat → Prop} {w0 w : World} {a : Option Addr} {c : Nat} {xs : List UInt32} {g : UInt32} {v mv : Value} (h : GrI S w0 a c xs g 17 64 v mv w) (h0 : ∀ b, (Value.slice a xs.length c).ownBlock = some b → b < w0.heap.size) (hx : xs.length ≤ 4294967296) :
    ∃ v' W', (∀ ty, (Builtin.append_ #[27, 27] ty #[.slice a xs.length c, mv]).run Try.prog w = .ok v' W') ∧ GrD S w0 a c xs g v v' W' ∧ Keeps (fun k => some k = (Value.slice a xs.length c).ownBlock) w W' := by
  obtain ⟨hu, hv, hm, hfv, hfm, hK⟩ := h
  obtain ⟨am, cm, rfl, -, -⟩ := owns_slice hm
  have hcm : ∃ gm, am = some ⟨gm, 0, none⟩ := by
    rcases hm.2 with ⟨_, h⟩ | ⟨g', cap, cur, h, _⟩
    · cases h
    · cases h; exact ⟨_, rfl⟩
  obtain ⟨gm, rfl⟩ := hcm
  obtain ⟨v', W', hr, ho, hor⟩ := app_two a xs.length c _ hu ⟨gm, 0, none⟩ 64 cm (wvs (List.replicate 64 g)) (by rw [wvs_length]; simp) (by omega) (hm.cells rfl) (wvs_one _) (by omega)
  rw [← wvs_app] at ho
  refine ⟨v', W', hr, ?_⟩
  have hfv' : v.ownBlock = (Value.slice a xs.length c).ownBlock ∨ ∃ b, v.ownBlock = some b ∧ w0.heap.size ≤ b := by
    rcases hfv with e | e
    · rw [e]; exact .inl (own_any _ _ _ _ _)
    · exact .inr e
  rcases hor with ⟨rfl, hKa⟩ | ⟨⟨b, e1, hb⟩, hKa⟩
  · refine ⟨⟨owns_prefix (m := 64) (ys := wvs (List.replicate 64 g)) (by rw [← wvs_app]; exact ho) (wvs_length _), ?_, ho, hfv', .inl (own_any _ _ _ _ _), hK.trans hKa fun k _ e => .inl e⟩, hKa⟩
    rcases hfv with e | ⟨b, e, hb⟩
    · rw [e]
      refine owns_prefix (m := 47) (ys := wvs (List.replicate 47 g)) ?_ (by rw [wvs_length]; simp)
      rw [← wvs_app, List.append_assoc, List.replicate_append_replicate]
      exact ho
    · refine owns_kept hv hKa fun k hk e2 => ?_
      rw [e] at hk; cases hk
      have := h0 _ e2.symm; omega
  · exact ⟨⟨owns_kept hu hKa fun _ _ e => e, owns_kept hv hKa fun _ _ e => e, ho, hfv', .inr ⟨b, e1, Nat.le_trans hK.size hb⟩, hK.trans hKa fun _ _ e => e.elim⟩, hKa.none⟩

theorem GrI.same {S : Nat → Prop} {w0 w w' : World} {a : Option Addr} {c : Nat} {xs : List UInt32} {g : UInt32} {p j : Nat} {v mv : Value} (h : GrI S w0 a c xs g p j v mv w) (hK : Keeps (fun _ => False) w w') : GrI S w0 a c xs g p j v mv w' :=
  ⟨owns_kept h.1 hK fun _ _ e => e, owns_kept h.2.1 hK fun _ _ e => e, owns_kept h.2.2.1 hK fun _ _ e => e, h.2.2.2.1, h.2.2.2.2.1, h.2.2.2.2.2.trans hK fun _ _ e => e.elim⟩

theorem GrI.store {w0 w : World} {a : Option Addr} {c : Nat} {xs : List UInt32} {g : UInt32} {p j : Nat} {v mv : Value} {kb : Nat} (h : GrI (fun _ => False) w0 a c xs g p j v mv w) (hu : (Value.slice a xs.length c).ownBlock ≠ some kb) (hkb : kb < w0.heap.size) (o : Nat) (x : Value) : GrI (· = kb) w0 a c xs g p j v mv (w.setCell ⟨kb, o, none⟩ x) := by
  obtain ⟨h1, h2, h3, h4, h5, h6⟩ := h
  have hK : Keeps (· = kb) w (w.setCell ⟨kb, o, none⟩ x) := (Keeps.refl _ _).setCell _ _ fun _ => rfl
  refine ⟨owns_kept h1 hK fun k hk e => by subst e; exact hu hk, owns_kept h2 hK fun k hk e => ?_, owns_kept h3 hK fun k hk e => ?_, h4, h5, (h6.mono fun k _ e => ?_).trans hK fun _ _ e => .inr e⟩
  · subst e
    rcases h4 with e1 | ⟨b, e1, hb⟩
    · rw [e1] at hk; exact hu (by rw [← hk]; exact own_any _ _ _ _ _)
    · rw [e1] at hk; cases hk; omega
  · subst e; have := (h5 k hk).1; omega
  · rcases e with e | e
    · exact .inl e
    · exact e.elim

set_option maxHeartbeats 1000000 in
theorem allWords_any (a : Option Addr) (c n k : Nat) (m g : UInt32) (w : World) (h : SegW w a (List.replicate n m ++ List.replicate k g)) (hn : n + k ≤ 8589934592) :
    Calls Try.prog 51 #[.slice a (n + k) c, .int .i64 n, .int .u32 (m.toNat : Int), .int .u32 (g.toNat : Int)] w fun e w' => e = .returned (.bool true) ∧ Keeps (fun _ => False) w w' := by
  obtain ⟨L, hL⟩ : ∃ L, L = n + k := ⟨_, rfl⟩
  have HS : Hid (SegW w a (List.replicate n m ++ List.replicate k g) ∧ L = n + k) := ⟨h, hL⟩
  rw [← hL] at hn ⊢
  have hLn : (L : Int) ≤ 8589934592 := by omega
  have hnL : (n : Int) ≤ L := by omega
  obtain ⟨mt, hmt⟩ : ∃ mt : Nat, mt = m.toNat := ⟨_, rfl⟩
  obtain ⟨gt, hgt⟩ : ∃ gt : Nat, gt = g.toNat := ⟨_, rfl⟩
  have HM : Hid (mt = m.toNat ∧ gt = g.toNat) := ⟨hmt, hgt⟩
  rw [← hmt, ← hgt]
  clear h hn hL hmt hgt
  go_enter Try.func51, Try.ntmps51
  go_wp2
  go_loopw [9] (fun i wr => ∃ j : Nat, j ≤ L ∧ i = .int .i64 j ∧ Keeps (fun _ => False) w wr) (fun i _ => L - (intOf i).toNat)
  case atStart => exact ⟨0, by omega, rfl, Keeps.refl _ _⟩
  case round =>
    obtain ⟨j, hj, rfl, hKr⟩ := hrel
    have HK : Hid (Keeps (fun _ => False) w wr) := hKr
    clear hKr
    by_cases hlt : j < L
    · have hjl : j < (List.replicate n m ++ List.replicate k g).length := by have := HS.out.2; simp; omega
      rcases HS.out.1.kept HK.out (fun _ _ e => e) with h | ⟨g1, o1, rfl, c1⟩
      · rw [h] at hjl; simp at hjl
      have c1 := c1 j hjl
      have hlt' : (j : Int) < L := by omega
      by_cases hjn : j < n
      · have hjn' : (j : Int) < n := by omega
        rw [List.getElem_append_left (by simpa using hjn), List.getElem_replicate, ← HM.out.1] at c1
        go_wp2
        go_roundw
        case rel => exact ⟨j + 1, by omega, by go_num, HK.out⟩
        case measure => simp [intOf]; omega
      · have hjn' : ¬ (j : Int) < n := by omega
        have hjn2 : (n : Int) ≤ j := by omega
        rw [List.getElem_append_right (by simpa using hjn), List.getElem_replicate, ← HM.out.2] at c1
        go_wp2
        go_roundw
        case rel => exact ⟨j + 1, by omega, by go_num, HK.out⟩
        case measure => simp [intOf]; omega
    · obtain rfl : j = L := by omega
      go_wp2
      go_ret
      exact ⟨rfl, HK.out⟩

structure Ent where
  a : Option Addr
  c : Nat
  xs : List UInt32
  wa : Option Addr
  wc : Nat

def Ent.lv (e : Ent) : Value := .slice e.a e.xs.length e.c

def Ent.wv (e : Ent) : Value := .slice e.wa e.xs.length e.wc

def Ent.vs (e : Ent) : List Value := [e.lv, e.wv, .slice none 0 0, .slice none 0 0]

def evs (es : List Ent) : List Value := es.flatMap Ent.vs

theorem evs_length (es : List Ent) : (evs es).length = es.length * 4 := by
  induction es with
  | nil => rfl
  | cons a l ih => simp only [evs, List.flatMap_cons, List.length_append] at *; rw [ih]; simp [Ent.vs]; omega

theorem evs_append (a b : List Ent) : evs (a ++ b) = evs a ++ evs b := by simp [evs]

theorem evs_get (es : List Ent) (i j : Nat) (e : Ent) (he : es[i]? = some e) (hj : j < 4) : (evs es)[i * 4 + j]? = e.vs[j]? := by
  induction es generalizing i with
  | nil => simp at he
  | cons a l ih =>
    have e1 : evs (a :: l) = a.vs ++ evs l := by simp [evs]
    rw [e1]
    cases i with
    | zero =>
      simp at he
      subst he
      rw [List.getElem?_append_left (by simp [Ent.vs]; omega)]
      simp
    | succ i =>
      rw [List.getElem?_append_right (by simp [Ent.vs]; omega)]
      have e2 : (i + 1) * 4 + j - a.vs.length = i * 4 + j := by simp [Ent.vs]; omega
      rw [e2]
      exact ih i (by simpa using he)

structure BookOk (w : World) (es : List Ent) (kv : Value) : Prop where
  row : w.ownsRow 0 101 4 kv es.length (evs es)
  l : ∀ (i : Nat) (e : Ent), es[i]? = some e → w.ownsRow 0 26 1 e.lv e.xs.length (wvs e.xs)
  q : ∀ (i : Nat) (e : Ent), es[i]? = some e → w.ownsRow 0 26 1 e.wv e.xs.length (wvs e.xs)
  len : ∀ (i : Nat) (e : Ent), es[i]? = some e → e.xs.length ≤ 4294967296
  dis : ∀ (i j : Nat) (e e2 : Ent) (k : Nat), es[i]? = some e → es[j]? = some e2 → i ≠ j → e.lv.ownBlock = some k → e2.lv.ownBlock ≠ some k
  rowl : ∀ (i : Nat) (e : Ent) (k : Nat), es[i]? = some e → e.lv.ownBlock = some k → kv.ownBlock ≠ some k
  rowq : ∀ (i : Nat) (e : Ent) (k : Nat), es[i]? = some e → e.wv.ownBlock = some k → kv.ownBlock ≠ some k

def BF (es : List Ent) (kv : Value) (k : Nat) : Prop := kv.ownBlock = some k ∨ ∃ (i : Nat) (e : Ent), es[i]? = some e ∧ (e.lv.ownBlock = some k ∨ e.wv.ownBlock = some k)

theorem BookOk.kept {S : Nat → Prop} {w w' : World} {es : List Ent} {kv : Value} (h : BookOk w es kv) (hK : Keeps S w w') (hS : ∀ k, BF es kv k → ¬ S k) : BookOk w' es kv :=
  ⟨owns_kept h.row hK fun k hk => hS k (.inl hk), fun i e he => owns_kept (h.l i e he) hK fun k hk => hS k (.inr ⟨i, e, he, .inl hk⟩), fun i e he => owns_kept (h.q i e he) hK fun k hk => hS k (.inr ⟨i, e, he, .inr hk⟩), h.len, h.dis, h.rowl, h.rowq⟩

theorem BookOk.lt {w : World} {es : List Ent} {kv : Value} (h : BookOk w es kv) {k : Nat} (hk : BF es kv k) : k < w.heap.size := by
  rcases hk with hk | ⟨i, e, he, hk | hk⟩
  · exact owns_lt h.row hk
  · exact owns_lt (h.l i e he) hk
  · exact owns_lt (h.q i e he) hk

structure Frm where
  T : Nat → Prop
  w0 : World

structure Bk (fr : Frm) (es : List Ent) (WB kb : Nat) (cells : List Value) (ka : Option Addr) (f : Nat → Ent → List UInt32) (cs : List Value) (w : World) : Prop where
  b : Blk w WB cells 38
  r : es ≠ [] → ka = some ⟨kb, 0, none⟩ ∧ Blk w kb cs 101 ∧ kb ≠ WB
  g : ∀ (k : Nat) (e : Ent), es[k]? = some e → cs[k * 4]? = some e.lv
  l : ∀ (k : Nat) (e : Ent), es[k]? = some e → (f k e).length = e.xs.length ∧ w.ownsRow 0 26 1 e.lv e.xs.length (wvs (f k e))
  wb : ∀ (k : Nat) (e : Ent), es[k]? = some e → e.lv.ownBlock ≠ some WB ∧ e.lv.ownBlock ≠ some kb
  dis : ∀ (i j : Nat) (e e2 : Ent) (k : Nat), es[i]? = some e → es[j]? = some e2 → i ≠ j → e.lv.ownBlock = some k → e2.lv.ownBlock ≠ some k
  len : ∀ (i : Nat) (e : Ent), es[i]? = some e → e.xs.length ≤ 4294967296
  kp : Keeps fr.T fr.w0 w
  t : (∀ (k : Nat) (e : Ent) (b : Nat), es[k]? = some e → e.lv.ownBlock = some b → fr.T b) ∧ (es ≠ [] → fr.T kb)

theorem Bk.same {fr : Frm} {es : List Ent} {WB kb : Nat} {cells : List Value} {ka : Option Addr} {f : Nat → Ent → List UInt32} {cs : List Value} {w w' : World} (h : Bk fr es WB kb cells ka f cs w) (hK : Keeps (fun _ => False) w w') : Bk fr es WB kb cells ka f cs w' :=
  ⟨h.b.kept hK (fun e => e), fun he => ⟨(h.r he).1, (h.r he).2.1.kept hK (fun e => e), (h.r he).2.2⟩, h.g, fun k e he => ⟨(h.l k e he).1, owns_kept (h.l k e he).2 hK fun _ _ e => e⟩, h.wb, h.dis, h.len, h.kp.trans hK (fun _ _ e => e.elim), h.t⟩

theorem Bk.upd {fr : Frm} {es : List Ent} {WB kb : Nat} {cells : List Value} {ka : Option Addr} {f f' : Nat → Ent → List UInt32} {cs : List Value} {w w' : World} (h : Bk fr es WB kb cells ka f cs w) {i : Nat} {e : Ent} (he : es[i]? = some e) (hK : Keeps (fun k => some k = e.lv.ownBlock) w w') (ho : w'.ownsRow 0 26 1 e.lv e.xs.length (wvs (f' i e))) (hl : (f' i e).length = e.xs.length) (hf : ∀ (k : Nat) (e' : Ent), k ≠ i → f' k e' = f k e') :
    Bk fr es WB kb cells ka f' cs w' := by
  refine ⟨h.b.kept hK fun e2 => (h.wb i e he).1 e2.symm, fun hne => ⟨(h.r hne).1, (h.r hne).2.1.kept hK fun e2 => (h.wb i e he).2 e2.symm, (h.r hne).2.2⟩, h.g, fun k e' he' => ?_, h.wb, h.dis, h.len, h.kp.trans hK (fun b _ e2 => h.t.1 i e b he e2.symm), h.t⟩
  by_cases hk : k = i
  · subst hk
    rw [he] at he'; cases he'
    exact ⟨hl, ho⟩
  · rw [hf k e' hk]
    exact ⟨(h.l k e' he').1, owns_kept (h.l k e' he').2 hK fun x hx e2 => h.dis k i e' e x he' he hk hx e2.symm⟩

def mkW (i : Nat) : UInt32 := UInt32.ofNat (2 * i + 2684354561)

def gkW (i : Nat) : UInt32 := UInt32.ofNat (2 * i + 2684354562)

def fM (i : Nat) (k : Nat) (e : Ent) : List UInt32 := if k < i then List.replicate e.xs.length (mkW k) else e.xs

def DoneE (N0 : Nat) (w : World) (e : Ent) (k : Nat) (one many : Value) : Prop :=
  w.ownsRow 0 26 1 one (e.xs.length + 17) (wvs (List.replicate e.xs.length (mkW k) ++ List.replicate 17 (gkW k))) ∧
  w.ownsRow 0 26 1 many (e.xs.length + 64) (wvs (List.replicate e.xs.length (mkW k) ++ List.replicate 64 (gkW k))) ∧
  (one.ownBlock = e.lv.ownBlock ∨ ∃ b, one.ownBlock = some b ∧ N0 ≤ b) ∧ (many.ownBlock = e.lv.ownBlock ∨ ∃ b, many.ownBlock = some b ∧ N0 ≤ b)

theorem DoneE.kept {S : Nat → Prop} {N0 : Nat} {w w' : World} {e : Ent} {k : Nat} {one many : Value} (h : DoneE N0 w e k one many) (hK : Keeps S w w') (h1 : ∀ b, e.lv.ownBlock = some b → ¬ S b) (h2 : ∀ b, N0 ≤ b → ¬ S b) : DoneE N0 w' e k one many := by
  obtain ⟨ho, hm, f1, f2⟩ := h
  refine ⟨owns_kept ho hK fun b hb => ?_, owns_kept hm hK fun b hb => ?_, f1, f2⟩
  · rcases f1 with e1 | ⟨b', e1, hb'⟩
    · exact h1 b (by rw [← e1]; exact hb)
    · rw [e1] at hb; cases hb; exact h2 b hb'
  · rcases f2 with e1 | ⟨b', e1, hb'⟩
    · exact h1 b (by rw [← e1]; exact hb)
    · rw [e1] at hb; cases hb; exact h2 b hb'

structure Bk2 (fr : Frm) (es : List Ent) (WB kb : Nat) (cells : List Value) (ka : Option Addr) (N0 i : Nat) (cs : List Value) (w : World) : Prop where
  bk : Bk fr es WB kb cells ka (fM es.length) cs w
  lt : ∀ (k : Nat) (e : Ent) (b : Nat), es[k]? = some e → e.lv.ownBlock = some b → b < N0
  kb : es ≠ [] → kb < N0
  ge : N0 ≤ w.heap.size
  done : ∀ (k : Nat) (e : Ent), k < i → es[k]? = some e → ∃ one many, cs[k * 4 + 2]? = some one ∧ cs[k * 4 + 3]? = some many ∧ DoneE N0 w e k one many
  cl : ∀ (k : Nat) (e : Ent), es[k]? = some e → k * 4 + 3 < cs.length

theorem Bk2.same {fr : Frm} {es : List Ent} {WB kb : Nat} {cells : List Value} {ka : Option Addr} {N0 i : Nat} {cs : List Value} {w w' : World} (h : Bk2 fr es WB kb cells ka N0 i cs w) (hK : Keeps (fun _ => False) w w') : Bk2 fr es WB kb cells ka N0 i cs w' :=
  ⟨h.bk.same hK, h.lt, h.kb, Nat.le_trans h.ge hK.size, fun k e hk he => by
    obtain ⟨o, m, h1, h2, h3⟩ := h.done k e hk he
    exact ⟨o, m, h1, h2, h3.kept hK (fun _ _ e => e) fun _ _ e => e⟩, h.cl⟩

theorem Bk2.step {fr : Frm} {es : List Ent} {WB kb : Nat} {cells : List Value} {ka : Option Addr} {N0 i : Nat} {cs : List Value} {w w1 w3 : World} (h : Bk2 fr es WB kb cells ka N0 i cs w) {e : Ent} (he : es[i]? = some e) {v mv v' : Value}
    (h1 : GrI (fun _ => False) w e.a e.c (List.replicate e.xs.length (mkW i)) (gkW i) 17 64 v mv w1)
    (h2 : GrD (· = kb) w e.a e.c (List.replicate e.xs.length (mkW i)) (gkW i) v v' w3) (hB : Blk w3 kb (cs.set (i * 4 + 2) v) 101) :
    Bk2 fr es WB kb cells ka N0 (i + 1) ((cs.set (i * 4 + 2) v).set (i * 4 + 3) v') (w3.setCell ⟨kb, i * 4 + 3, none⟩ v') := by
  have hne : es ≠ [] := by intro e0; rw [e0] at he; simp at he
  have hil : i < es.length := (List.getElem?_eq_some_iff.1 he).1
  obtain ⟨hu, hv, hm, f1, f2, hK⟩ := h2
  have hlv : (Value.slice e.a (List.replicate e.xs.length (mkW i)).length e.c).ownBlock = e.lv.ownBlock := own_any _ _ _ _ _
  rw [hlv] at f1 f2 hK
  rw [List.length_replicate] at hu hv hm
  obtain ⟨W4, hW4⟩ : ∃ W4, W4 = w3.setCell ⟨kb, i * 4 + 3, none⟩ v' := ⟨_, rfl⟩
  rw [← hW4]
  have hK4 : Keeps (· = kb) w3 W4 := by rw [hW4]; exact (Keeps.refl _ _).setCell _ _ fun _ => rfl
  have hKall : Keeps (fun k => some k = e.lv.ownBlock ∨ k = kb) w W4 := hK.trans hK4 fun _ _ e => .inr e
  have hkb := h.kb hne
  have hkbw : kb < w.heap.size := Nat.lt_of_lt_of_le hkb h.ge
  have hn4 : ∀ {x : Value}, (x.ownBlock = e.lv.ownBlock ∨ ∃ b, x.ownBlock = some b ∧ w.heap.size ≤ b) → ∀ k, x.ownBlock = some k → ¬ k = kb := by
    intro x hx k hk e2
    subst e2
    rcases hx with e1 | ⟨b, e1, hb⟩
    · rw [e1] at hk; exact (h.bk.wb i e he).2 hk
    · rw [e1] at hk; cases hk; omega
  have hother : ∀ (k : Nat) (e' : Ent), k ≠ i → es[k]? = some e' → ∀ b, e'.lv.ownBlock = some b → ¬ (some b = e.lv.ownBlock ∨ b = kb) := by
    rintro k e' hk he' b hb (e2 | e2)
    · exact h.bk.dis k i e' e b he' he hk hb e2.symm
    · subst e2; exact (h.bk.wb k e' he').2 hb
  have hfi : fM es.length i e = List.replicate e.xs.length (mkW i) := by unfold fM; rw [if_pos hil]
  refine ⟨⟨h.bk.b.kept hKall ?_, fun _ => ⟨(h.bk.r hne).1, by rw [hW4]; exact hB.setCell _ _, (h.bk.r hne).2.2⟩, fun k e' he' => ?_, fun k e' he' => ?_, h.bk.wb, h.bk.dis, h.bk.len, h.bk.kp.trans hKall (fun b _ e2 => e2.elim (fun e2 => h.bk.t.1 i e b he e2.symm) (fun e2 => by rw [e2]; exact h.bk.t.2 hne)), h.bk.t⟩, h.lt, h.kb, Nat.le_trans h.ge hKall.size, fun k e' hk he' => ?_, fun k e' he' => by simp only [List.length_set]; exact h.cl k e' he'⟩
  · rintro (e2 | e2)
    · exact (h.bk.wb i e he).1 e2.symm
    · exact (h.bk.r hne).2.2 e2.symm
  · rw [List.getElem?_set_ne (by omega), List.getElem?_set_ne (by omega)]
    exact h.bk.g k e' he'
  · refine ⟨(h.bk.l k e' he').1, ?_⟩
    by_cases hk : k = i
    · subst hk
      rw [he] at he'; cases he'
      rw [hfi]
      exact owns_kept hu hK4 fun x hx e2 => by subst e2; exact (h.bk.wb k e he).2 hx
    · exact owns_kept (h.bk.l k e' he').2 hKall (hother k e' hk he')
  · have hcl := h.cl i e he
    by_cases hk2 : k = i
    · subst hk2
      rw [he] at he'; cases he'
      refine ⟨v, v', ?_, ?_, owns_kept hv hK4 (hn4 f1), owns_kept hm hK4 (hn4 f2), ?_, ?_⟩
      · rw [List.getElem?_set_ne (by omega), List.getElem?_set_self (by omega)]
      · rw [List.getElem?_set_self (by simp; omega)]
      · rcases f1 with e1 | ⟨b, e1, hb⟩
        · exact .inl e1
        · exact .inr ⟨b, e1, Nat.le_trans h.ge hb⟩
      · rcases f2 with e1 | ⟨b, e1, hb⟩
        · exact .inl e1
        · exact .inr ⟨b, e1, Nat.le_trans h.ge hb⟩
    · obtain ⟨o, m, g1, g2, g3⟩ := h.done k e' (by omega) he'
      refine ⟨o, m, ?_, ?_, g3.kept hKall (hother k e' hk2 he') ?_⟩
      · rw [List.getElem?_set_ne (by omega), List.getElem?_set_ne (by omega)]; exact g1
      · rw [List.getElem?_set_ne (by omega), List.getElem?_set_ne (by omega)]; exact g2
      · rintro b hb (e2 | e2)
        · have := h.lt i e b he e2.symm; omega
        · omega

end Go.Proofs.Ytljhdijledclhaa
