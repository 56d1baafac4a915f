import Derived.Test.YtljhdijledclhaaNb
namespace Go.Proofs.Ytljhdijledclhaa
open Go.RowKit Go.Shelf
attribute [local go_sem] Oper.semAt_some func_nil57 func_nil58
set_option linter.unusedVariables false

structure WorkD where
  s : Bool
  p : Int
  x : UInt32

def WorksAt (w : World) (a : Option Addr) (ds : List WorkD) : Prop :=
  ds = [] ∨ ∃ B o, a = some ⟨B, o, none⟩ ∧ ∀ j, (h : j < ds.length) → w.cell? ⟨B, o + j * 3, none⟩ = some (.bool (ds[j]'h).s) ∧ w.cell? ⟨B, o + j * 3 + 1, none⟩ = some (.int .i64 (ds[j]'h).p) ∧ w.cell? ⟨B, o + j * 3 + 2, none⟩ = some (.int .u32 ((ds[j]'h).x.toNat : Int))

/-- What stands in the boxes of 'through'. -/
structure Bx (W : World) (H T : Nat) (wa : Option Addr) (m cap dn N at' : Nat) : Prop where
  t : Blk W H [.pointer (some ⟨T, 0, none⟩)] 65
  w : Blk W (H + 1) [.slice wa m cap] 64
  d : Blk W (H + 1 + 1) [.int .i64 (dn : Int)] 3
  r1 : Blk W (H + 1 + 1 + 1) [.int .i64 0] 3
  r2 : Blk W (H + 1 + 1 + 1 + 1) [.bool false] 4
  n : Blk W (H + 5) [.int .i64 (N : Int)] 3
  a : Blk W (H + 5 + 1) [.int .i64 (at' : Int)] 3

theorem Bx.kept {S : Nat → Prop} {W W' : World} {H T : Nat} {wa : Option Addr} {m cap dn N at' : Nat} (h : Bx W H T wa m cap dn N at') (hK : Keeps S W W') (hS : ∀ k, S k → k < H ∨ H + 7 ≤ k) : Bx W' H T wa m cap dn N at' := by
  have hn : ∀ k, H ≤ k → k < H + 7 → ¬ S k := fun k h1 h2 e => by have := hS k e; omega
  exact ⟨h.t.kept hK (hn _ (by omega) (by omega)), h.w.kept hK (hn _ (by omega) (by omega)), h.d.kept hK (hn _ (by omega) (by omega)), h.r1.kept hK (hn _ (by omega) (by omega)), h.r2.kept hK (hn _ (by omega) (by omega)),
    h.n.kept hK (hn _ (by omega) (by omega)), h.a.kept hK (hn _ (by omega) (by omega))⟩

/-- Where the blocks of the two lie, seen from 'through'. -/
structure Lie (H T a ga b gb gx gy B1 B2 : Nat) : Prop where
  f : Far T a ga b gb gx gy
  lt : T < H
  la : a < H
  lb : b < H
  lga : ga < H
  lgb : gb < H
  lgx : gx < H
  lgy : gy < H
  n1 : ¬ Hot ga gb gx gy B1
  n2 : ¬ Hot ga gb gx gy B2

structure ThI (w : World) (H T a ga b gb gx gy B1 B2 : Nat) (wa : Option Addr) (m cap N L M s : Nat) (W : World) : Prop where
  ex : ∃ xs ys dn at', Tw W T a ga b gb gx gy xs ys ∧ xs.length = L ∧ ys.length = M ∧ Bx W H T wa m cap dn N at' ∧ at' ≤ s ∧ dn ≤ m ∧ ∀ j, at' ≤ j → j < s → ¬ Unl xs ys j
  k : Keeps (Hot ga gb gx gy) w W
  b1 : W.cell? ⟨B1, 0, none⟩ = some (.pointer (some ⟨a, 0, none⟩))
  b2 : W.cell? ⟨B2, 0, none⟩ = some (.pointer (some ⟨b, 0, none⟩))

theorem ThI.kept {w : World} {H T a ga b gb gx gy B1 B2 : Nat} {wa : Option Addr} {m cap N L M s : Nat} {W W' : World} (h : ThI w H T a ga b gb gx gy B1 B2 wa m cap N L M s W) (hH : w.heap.size ≤ H) (hl : Lie H T a ga b gb gx gy B1 B2) (h1 : B1 < H) (h2 : B2 < H)
    (hK : Keeps (fun k => k = H + 7 ∨ k = H + 7 + 1) W W') : ThI w H T a ga b gb gx gy B1 B2 wa m cap N L M s W' := by
  obtain ⟨⟨xs, ys, dn, at', ht, hx, hy, hb, hr⟩, hk, hb1, hb2⟩ := h
  have l := hl
  obtain ⟨_, l1, l2, l3, l4, l5, l6, l7, _, _⟩ := l
  refine ⟨⟨xs, ys, dn, at', ht.kept hK (fun k e => ?_), hx, hy, hb.kept hK (fun k e => by omega), hr⟩, hk.trans hK fun k hk' e => by omega, cell_kept' hb1 hK (by omega), cell_kept' hb2 hK (by omega)⟩
  refine ⟨?_, ?_, ?_, ?_, ?_, ?_, ?_⟩ <;> omega

theorem ThI.two {w : World} {H T a ga b gb gx gy B1 B2 : Nat} {wa : Option Addr} {m cap N L M s : Nat} {W : World} (h : ThI w H T a ga b gb gx gy B1 B2 wa m cap N L M s W) : Two B1 B2 a ga b gb L M W := by
  obtain ⟨⟨xs, ys, dn, at', ht, hx, hy, hb, hr⟩, hk, hb1, hb2⟩ := h
  exact ⟨hb1, hb2, xs, ys, ht.ma, ht.mb, hx, hy⟩

theorem results_cell_two {P : Program} {fn : Func} {p q : Tmp} {t u : TypeId} (h : fn.results = #[.cell p t, .cell q u]) (tmps : Array Value) (w : World) (g k : Nat) (v x : Value)
    (hp : tmps.getD p undef = .pointer (some ⟨g, 0, none⟩)) (hq : tmps.getD q undef = .pointer (some ⟨k, 0, none⟩)) (hl : (loadVar t ⟨g, 0, none⟩).run P w = .ok v w) (hm : (loadVar u ⟨k, 0, none⟩).run P w = .ok x w) :
    (results fn tmps).run P w = .ok (.tuple #[v, x]) w := by
  have hp' : tmps[p]?.getD undef = .pointer (some ⟨g, 0, none⟩) := by simpa using hp
  have hq' : tmps[q]?.getD undef = .pointer (some ⟨k, 0, none⟩) := by simpa using hq
  simp [results, h, hp', hq', asAddr, hl, hm]

theorem obj_kept2 {S : Nat → Prop} {w w' : World} {d : Nat} {o : Obj} (h : w.heap[d]? = some o) (hK : Keeps S w w') (hn : ¬ S d) : w'.heap[d]? = some o :=
  (hK.block d (Array.getElem?_eq_some_iff.1 h).1 hn).trans h

theorem tellD_keeps {b g c h L M s x : Nat} {W W' : World} {us vs : List UInt32} (hu : Mm W b g us) (hv : Mm W c h vs) (hu' : Mm W' b g us) (hv' : Mm W' c h vs) (ht : TellD b g c h L M s x W) : TellD b g c h L M s x W' :=
  ⟨ht.1, ht.2.1, fun ps qs hp hq => by rw [← (hu'.inj hp).2, ← (hv'.inj hq).2]; exact ht.2.2 us vs hu hv⟩

set_option maxRecDepth 20000 in
set_option maxHeartbeats 8000000 in
theorem through_any (w0 w : World) (T a ga b gb gx gy B1 B2 : Nat) (xs ys : List UInt32) (wa : Option Addr) (cap dn : Nat) (ds : List WorkD) (h : Tw w T a ga b gb gx gy xs ys) (hl : Lie w.heap.size T a ga b gb gx gy B1 B2)
    (hk0 : Keeps (fun _ => False) w0 w) (hot : ∀ k, Hot ga gb gx gy k → w0.heap.size ≤ k) (hw : WorksAt w0 wa ds) (hf : ∀ d ∈ ds, d.p ≤ 9223372036854775807) (hm : ds.length ≤ maxLen) (hdn : dn ≤ ds.length)
    (q1 : w.cell? ⟨B1, 0, none⟩ = some (.pointer (some ⟨a, 0, none⟩))) (q2 : w.cell? ⟨B2, 0, none⟩ = some (.pointer (some ⟨b, 0, none⟩))) :
    Calls Try.prog 27 #[.pointer (some ⟨T, 0, none⟩), .func (.func 54) #[] #[.pointer (some ⟨B1, 0, none⟩), .pointer (some ⟨B2, 0, none⟩)], .slice wa ds.length cap, .int .i64 dn] w fun e w' =>
      ∃ dn' : Nat, dn' ≤ ds.length ∧ e = .returned (.tuple #[.int .i64 dn', .bool true]) ∧ (∃ us vs, Tw w' T a ga b gb gx gy us vs ∧ us.length = xs.length ∧ vs.length = ys.length) ∧ Keeps (Hot ga gb gx gy) w w' := by
  have hlt1 := World.block_lt_of_cell? w ⟨B1, 0, none⟩ q1
  have hlt2 := World.block_lt_of_cell? w ⟨B2, 0, none⟩ q2
  obtain ⟨m, hmm⟩ : ∃ m, m = ds.length := ⟨_, rfl⟩
  have HMM : Hid (m = ds.length) := hmm
  rw [← hmm] at hm hdn ⊢
  have hm1 : (m : Int) ≤ 9223372036854775807 := by unfold maxLen at hm; omega
  obtain ⟨L, hL⟩ : ∃ L, L = xs.length := ⟨_, rfl⟩
  obtain ⟨M, hM⟩ : ∃ M, M = ys.length := ⟨_, rfl⟩
  have s1 := h.ma.small
  have s2 := h.mb.small
  rw [← hL] at s1
  rw [← hM] at s2
  obtain ⟨H, hH⟩ : ∃ H, H = w.heap.size := ⟨_, rfl⟩
  have HH : Hid (H = w.heap.size) := hH
  have HL : Hid (Lie H T a ga b gb gx gy B1 B2 ∧ B1 < H ∧ B2 < H) := by rw [hH]; exact ⟨hl, hlt1, hlt2⟩
  have HT : Hid (Tw w T a ga b gb gx gy xs ys) := h
  have HW : Hid (Keeps (fun _ => False) w0 w ∧ (∀ k, Hot ga gb gx gy k → w0.heap.size ≤ k) ∧ WorksAt w0 wa ds ∧ ∀ d ∈ ds, d.p ≤ 9223372036854775807) := ⟨hk0, hot, hw, hf⟩
  have HQ : Hid (w.cell? ⟨B1, 0, none⟩ = some (.pointer (some ⟨a, 0, none⟩)) ∧ w.cell? ⟨B2, 0, none⟩ = some (.pointer (some ⟨b, 0, none⟩))) := ⟨q1, q2⟩
  have HLM : Hid (xs.length = L ∧ ys.length = M) := ⟨hL.symm, hM.symm⟩
  rw [← hL, ← hM]
  clear hmm hm hL hM hl hk0 hot hw hf q1 q2 hlt1 hlt2
  refine (callsIn_wide (n := 8)).1 ?_
  refine callsIn_of_wp_marks Try.func27 rfl trivial ?_ rfl
  refine wpIn_wide.2 ?_
  simp only [Try.ntmps27, List.size_toArray, List.length_cons, List.length_nil, Nat.reduceAdd, Nat.reduceSub, Array.replicate_succ, Array.replicate_zero, List.push_toArray, List.append_toArray, List.nil_append, List.cons_append]
  go_wp2
  have e0 := ((((Blk.new w #[.pointer (some ⟨T, 0, none⟩)] 65).alloc (.cells #[.slice wa m cap] 64)).alloc (.cells #[.int .i64 (dn : Int)] 3)).alloc (.cells #[.int .i64 0] 3)).alloc (.cells #[.bool false] 4)
  have e1 := (((Blk.new (w.alloc (.cells #[.pointer (some ⟨T, 0, none⟩)] 65)) #[.slice wa m cap] 64).alloc (.cells #[.int .i64 (dn : Int)] 3)).alloc (.cells #[.int .i64 0] 3)).alloc (.cells #[.bool false] 4)
  have e2 := ((Blk.new ((w.alloc (.cells #[.pointer (some ⟨T, 0, none⟩)] 65)).alloc (.cells #[.slice wa m cap] 64)) #[.int .i64 (dn : Int)] 3).alloc (.cells #[.int .i64 0] 3)).alloc (.cells #[.bool false] 4)
  have e3 := (Blk.new (((w.alloc (.cells #[.pointer (some ⟨T, 0, none⟩)] 65)).alloc (.cells #[.slice wa m cap] 64)).alloc (.cells #[.int .i64 (dn : Int)] 3)) #[.int .i64 0] 3).alloc (.cells #[.bool false] 4)
  have e4 := Blk.new ((((w.alloc (.cells #[.pointer (some ⟨T, 0, none⟩)] 65)).alloc (.cells #[.slice wa m cap] 64)).alloc (.cells #[.int .i64 (dn : Int)] 3)).alloc (.cells #[.int .i64 0] 3)) #[.bool false] 4
  simp only [World.size_alloc] at e1 e2 e3 e4
  have hT5 := HT.out.grown (((((((Keeps.refl (fun _ => False) w).alloc (.cells #[.pointer (some ⟨T, 0, none⟩)] 65)).alloc (.cells #[.slice wa m cap] 64)).alloc (.cells #[.int .i64 (dn : Int)] 3)).alloc (.cells #[.int .i64 0] 3)).alloc (.cells #[.bool false] 4)))
  have hK5 := ((((((Keeps.refl (fun _ => False) w).alloc (.cells #[.pointer (some ⟨T, 0, none⟩)] 65)).alloc (.cells #[.slice wa m cap] 64)).alloc (.cells #[.int .i64 (dn : Int)] 3)).alloc (.cells #[.int .i64 0] 3)).alloc (.cells #[.bool false] 4))
  have hZ5 : (((((w.alloc (.cells #[.pointer (some ⟨T, 0, none⟩)] 65)).alloc (.cells #[.slice wa m cap] 64)).alloc (.cells #[.int .i64 (dn : Int)] 3)).alloc (.cells #[.int .i64 0] 3)).alloc (.cells #[.bool false] 4)).heap.size = w.heap.size + 5 := by simp
  revert e0 e1 e2 e3 e4 hT5 hK5 hZ5
  generalize (((((w.alloc (.cells #[.pointer (some ⟨T, 0, none⟩)] 65)).alloc (.cells #[.slice wa m cap] 64)).alloc (.cells #[.int .i64 (dn : Int)] 3)).alloc (.cells #[.int .i64 0] 3)).alloc (.cells #[.bool false] 4)) = W5
  rw [← hH]
  intro e0 e1 e2 e3 e4 hT5 hK5 hZ5
  have c0 := e0.cell (i := 0) rfl
  have c2 := hT5.t.cell (i := 2) rfl
  have c3 := hT5.t.cell (i := 3) rfl
  rw [HLM.out.1] at c2
  rw [HLM.out.2] at c3
  have c0' := (e0.alloc (.cells #[.int .i64 0] 3)).cell (i := 0) rfl
  have c2' := (hT5.t.alloc (.cells #[.int .i64 0] 3)).cell (i := 2) rfl
  have c3' := (hT5.t.alloc (.cells #[.int .i64 0] 3)).cell (i := 3) rfl
  rw [HLM.out.1] at c2'
  rw [HLM.out.2] at c3'
  have H5 : Hid (Blk W5 H [.pointer (some ⟨T, 0, none⟩)] 65 ∧ Blk W5 (H + 1) [.slice wa m cap] 64 ∧ Blk W5 (H + 1 + 1) [.int .i64 (dn : Int)] 3 ∧ Blk W5 (H + 1 + 1 + 1) [.int .i64 0] 3 ∧ Blk W5 (H + 1 + 1 + 1 + 1) [.bool false] 4 ∧ Tw W5 T a ga b gb gx gy xs ys ∧ Keeps (fun _ => False) w W5 ∧ W5.heap.size = H + 5) :=
    ⟨e0, e1, e2, e3, e4, hT5, hK5, hZ5⟩
  clear e0 e1 e2 e3 e4 hT5 hK5 hZ5 h hH
  have nn0 : W5.heap.size ≠ H := World.new_ne W5 ⟨H, 0, none⟩ c0
  have nn2 : W5.heap.size ≠ T := World.new_ne W5 ⟨T, 2, none⟩ c2
  go_cut [10] from 14 to 24 (fun t wx => t = .pointer (some ⟨W5.heap.size, 0, none⟩) ∧ wx = (W5.alloc (.cells #[.int .i64 (if L < M then (M : Int) else (L : Int))] 3)).drew)
  case first =>
    go_region_held3 (fun w' => w'.cell? ⟨H, 0, none⟩ = some (.pointer (some ⟨T, 0, none⟩)) ∧ w'.cell? ⟨T, 2, none⟩ = some (.slice (some ⟨gx, 0, none⟩) L L) ∧ w'.cell? ⟨T, 3, none⟩ = some (.slice (some ⟨gy, 0, none⟩) M M)) (go_keep) (fail)
    all_goals go_wp2_with fail
    all_goals (go_meet; exact ⟨rfl, by first | rfl | (rw [if_pos (by omega)]) | (rw [if_neg (by omega)])⟩)
  obtain ⟨rfl, hwc⟩ := hcut
  obtain rfl := hwc.symm
  clear hwc
  clear nn0 nn2
  obtain ⟨N, hN⟩ : ∃ N, N = max L M := ⟨_, rfl⟩
  have hN1 : (if L < M then (M : Int) else (L : Int)) = (N : Int) := by split <;> omega
  have HN : Hid (N = max L M) := hN
  have hN2 : (N : Int) ≤ 16384 := by omega
  rw [hN1, H5.out.2.2.2.2.2.2.2]
  have H6 : Hid (Blk (W5.alloc (.cells #[.int .i64 (N : Int)] 3)).drew (H + 5) [.int .i64 (N : Int)] 3 ∧ Keeps (fun _ => False) W5 (W5.alloc (.cells #[.int .i64 (N : Int)] 3)).drew ∧ (W5.alloc (.cells #[.int .i64 (N : Int)] 3)).drew.heap.size = H + 5 + 1) := by
    have hz := H5.out.2.2.2.2.2.2.2
    refine ⟨?_, ((Keeps.refl _ W5).alloc _).drew, ?_⟩
    · rw [← hz]; exact (Blk.new W5 _ 3).drew
    · rw [← hz]; exact World.size_alloc W5 _
  revert H6
  generalize (W5.alloc (.cells #[.int .i64 (N : Int)] 3)).drew = W6
  intro H6
  clear hN hN1 c0 c2 c3 c0' c2' c3' s1 s2
  go_wp2
  rw [H6.out.2.2]
  have h0 : ThI w H T a ga b gb gx gy B1 B2 wa m cap N L M 0 (W6.alloc (.cells #[.int .i64 0] 3)) := by
    obtain ⟨f0, f1, f2, f3, f4, f5, f6, f7⟩ := H5.out
    obtain ⟨g0, g1, g2⟩ := H6.out
    have hKK : Keeps (fun _ => False) W5 (W6.alloc (.cells #[.int .i64 0] 3)) := g1.alloc _
    have hn6 := Blk.new W6 #[.int .i64 0] 3
    rw [g2] at hn6
    refine ⟨⟨xs, ys, dn, 0, f5.grown hKK, HLM.out.1, HLM.out.2, ⟨f0.kept hKK fun e => e, f1.kept hKK fun e => e, f2.kept hKK fun e => e, f3.kept hKK fun e => e, f4.kept hKK fun e => e, g0.alloc _, hn6⟩, by omega, hdn, fun j h1 h2 => by omega⟩,
      (f6.trans hKK fun _ _ e => e).mono (fun _ _ e => e.elim), cell_kept' (cell_kept' HQ.out.1 f6 fun e => e) hKK fun e => e, cell_kept' (cell_kept' HQ.out.2 f6 fun e => e) hKK fun e => e⟩
  have hsz : (W6.alloc (.cells #[.int .i64 0] 3)).heap.size = H + 7 := by rw [World.size_alloc, H6.out.2.2]
  revert h0 hsz
  generalize W6.alloc (.cells #[.int .i64 0] 3) = W7
  intro h0 hsz
  have HZ : Hid (W7.heap.size = H + 7) := hsz
  have HI : Hid (ThI w H T a ga b gb gx gy B1 B2 wa m cap N L M 0 W7) := h0
  have kp : ∀ s W W', Keeps (fun k => k = W7.heap.size ∨ k = W7.heap.size + 1) W W' → ThI w H T a ga b gb gx gy B1 B2 wa m cap N L M s W → ThI w H T a ga b gb gx gy B1 B2 wa m cap N L M s W' := fun s W W' hK h =>
    h.kept (by rw [HH.out]; exact Nat.le_refl _) HL.out.1 HL.out.2.1 HL.out.2.2 (by rw [← HZ.out]; exact hK)
  clear H5 H6 h0 hsz
  refine (wpIn_wide (n := 8)).1 ?_
  refine range_live2 (σ := Nat) (α := Nat) rfl (by omega) (gf := 54) (lb := #[.pointer (some ⟨B1, 0, none⟩), .pointer (some ⟨B2, 0, none⟩)]) rfl trivial (enters_of Try.func54 (by kernel_rfl) rfl)
    (differ_tells 7 B1 B2 a ga b gb L M) (fun _ => rfl) (ThI w H T a ga b gb gx gy B1 B2 wa m cap N L M) (fun _ _ => False) kp
    (fun s x W W' hK hi ht => by
      have hi' := kp s W W' hK hi
      obtain ⟨us, vs, d1, a1, t1, l1, l2, _⟩ := hi.ex
      have t2 : Mm W' a ga us ∧ Mm W' b gb vs := by
        have hl := HL.out.1
        have hz := HZ.out
        obtain ⟨_, m1, m2, m3, m4, m5, m6, m7, _, _⟩ := hl
        exact ⟨t1.ma.kept hK (by omega) (by omega), t1.mb.kept hK (by omega) (by omega)⟩
      exact tellD_keeps t1.ma t1.mb t2.1 t2.2 ht)
    (fun _ _ _ _ h => h) (fun s W hi => hi.two)
    (fun s s' W hi hs => by
      obtain ⟨rfl, hlt, hn⟩ := hs
      obtain ⟨⟨us, vs, d1, a1, t1, l1, l2, b1, r1, r2, r3⟩, k1, q1, q2⟩ := hi
      refine ⟨⟨us, vs, d1, a1, t1, l1, l2, b1, by omega, r2, fun j h1 h2 => ?_⟩, k1, q1, q2⟩
      by_cases hjs : j < s
      · exact r3 j h1 hjs
      · obtain rfl : j = s := by omega
        exact hn us vs t1.ma t1.mb)
    HI.out ?body ?done ?stop
  case stop =>
    rintro c W h _
    exact h.elim
  case body =>
    intro l s x W0 _ _
    unfold encD
    gi_wp2
    refine ⟨trivial, ?_⟩
    rintro W hlt hi ⟨hxs, hsm, hun⟩
    obtain ⟨⟨us, vs, d1, at', t1, l1, l2, bx, r1, r2, r3⟩, k1, q1, q2⟩ := hi
    have hU := hun us vs t1.ma t1.mb
    rw [← hxs] at hU r1 r3 hsm
    have hs16 : x ≤ 16384 := by have := t1.ma.small; have := t1.mb.small; omega
    have hxN : (x : Int) < (N : Int) := by have := HN.out; omega
    have hxa : ¬ ((x : Int) < (at' : Int)) := by omega
    have HAl : Hid (Calls _ _ _ W _) := talike_any T a ga b gb gx gy us vs at' x W t1 hs16 r3
    have HUn : Hid (∀ k, Calls Try.prog 57 #[.pointer (some ⟨T, 0, none⟩), .int .i64 x] (W.drewN k) fun e w' => e = .returned (.bool true) ∧ ∃ k', w' = W.drewN k') := fun k => by
      have h1 := tunlike_any T a ga b gb gx gy us vs x (W.drewN k) (t1.grown ((Keeps.refl _ W).drewN k)) hs16
      rw [decide_eq_true hU] at h1
      exact h1.mono fun e w' he => ⟨he.1, by obtain ⟨k', hk'⟩ := he.2; exact ⟨k + k', by rw [hk']; exact World.drewN_drewN W k k'⟩⟩
    have ct := bx.t.cell (i := 0) rfl
    have cn := bx.n.cell (i := 0) rfl
    have ca := bx.a.cell (i := 0) rfl
    have HB : Hid (Tw W T a ga b gb gx gy us vs ∧ us.length = L ∧ vs.length = M ∧ Bx W H T wa m cap d1 N at' ∧ Keeps (Hot ga gb gx gy) w W ∧ W.cell? ⟨B1, 0, none⟩ = some (.pointer (some ⟨a, 0, none⟩)) ∧ W.cell? ⟨B2, 0, none⟩ = some (.pointer (some ⟨b, 0, none⟩))) := ⟨t1, l1, l2, bx, k1, q1, q2⟩
    have HR : Hid (d1 ≤ m ∧ x = s ∧ W7.heap.size + 1 < W.heap.size) := ⟨r2, hxs, hlt⟩
    clear t1 l1 l2 bx r1 r2 r3 k1 q1 q2 hU hxs hsm hun hlt hs16 kp HI hdn
    gi_wp2_with fail
    refine ⟨trivial, ?_⟩
    refine (CallsIn.inRound l (callsIn_wide.2 HAl.out)).mono ?_
    rintro e w8 ⟨rfl, k8, hk8⟩
    have HU8 : Hid (Calls Try.prog 57 #[.pointer (some ⟨T, 0, none⟩), .int .i64 x] w8 fun e w' => e = .returned (.bool true) ∧ ∃ k', w' = W.drewN k') := by rw [hk8]; exact HUn.out k8
    have ct8 : w8.cell? ⟨H, 0, none⟩ = some (.pointer (some ⟨T, 0, none⟩)) := by rw [hk8]; exact HB.out.2.2.2.1.t.cell (i := 0) rfl
    clear hk8 HAl HUn ct cn ca
    gi_wp2_with fail
    refine ⟨trivial, ?_⟩
    refine (CallsIn.inRound l (callsIn_wide.2 HU8.out)).mono ?_
    rintro e w9 ⟨rfl, k9, hk9⟩
    have hB9 : Bx w9 H T wa m cap d1 N at' := by rw [hk9]; exact HB.out.2.2.2.1.kept ((Keeps.refl (fun _ => False) W).drewN k9) fun _ e => e.elim
    have ca9 := hB9.a.cell (i := 0) rfl
    have za9 := hB9.a.frozen 0
    have hKs : Keeps (· = H + 5 + 1) w9 (w9.setCell ⟨H + 5 + 1, 0, none⟩ (.int .i64 ((x : Int) + 1))) := (Keeps.refl (· = H + 5 + 1) w9).setCell ⟨H + 5 + 1, 0, none⟩ _ fun _ => rfl
    have hB10 : Bx (w9.setCell ⟨H + 5 + 1, 0, none⟩ (.int .i64 ((x : Int) + 1))) H T wa m cap d1 N (x + 1) :=
      ⟨hB9.t.kept hKs (by omega), hB9.w.kept hKs (by omega), hB9.d.kept hKs (by omega), hB9.r1.kept hKs (by omega), hB9.r2.kept hKs (by omega), hB9.n.kept hKs (by omega), hB9.a.setCell 0 _⟩
    have hKW : Keeps (fun _ => False) W w9 := by rw [hk9]; exact (Keeps.refl _ W).drewN k9
    have hll := HL.out.1
    have hT10 : Tw (w9.setCell ⟨H + 5 + 1, 0, none⟩ (.int .i64 ((x : Int) + 1))) T a ga b gb gx gy us vs := by
      obtain ⟨_, m1, m2, m3, m4, m5, m6, m7, _, _⟩ := hll
      exact (HB.out.1.grown hKW).kept hKs fun k e => by refine ⟨?_, ?_, ?_, ?_, ?_, ?_, ?_⟩ <;> omega
    have hK10 : Keeps (· = H + 5 + 1) W (w9.setCell ⟨H + 5 + 1, 0, none⟩ (.int .i64 ((x : Int) + 1))) := (hKW.mono fun _ _ e => e.elim).trans hKs fun _ _ e => e
    have cd := hB10.d.cell (i := 0) rfl
    have cw := hB10.w.cell (i := 0) rfl
    have ct := hB10.t.cell (i := 0) rfl
    obtain ⟨W10, hW10⟩ : ∃ W10, W10 = w9.setCell ⟨H + 5 + 1, 0, none⟩ (.int .i64 ((x : Int) + 1)) := ⟨_, rfl⟩
    have HW10 : Hid (W10 = w9.setCell ⟨H + 5 + 1, 0, none⟩ (.int .i64 ((x : Int) + 1))) := hW10
    rw [← hW10] at hB10 hT10 hK10
    have H10 : Hid (Bx W10 H T wa m cap d1 N (x + 1) ∧ Tw W10 T a ga b gb gx gy us vs ∧ Keeps (· = H + 5 + 1) W W10) := ⟨hB10, hT10, hK10⟩
    clear hk9 hB9 hKs hB10 hT10 hK10 hKW hll HU8 ct8 hW10
    by_cases hdm : d1 < m
    · gi_wp2
      rw [← HW10.out] at cd cw ct ⊢
      have hju : d1 < ds.length := by have := HMM.out; omega
      have hK0 : Keeps (fun _ => False) w0 W10 := by
        have hh := HH.out
        have hq := HW.out.1.size
        exact ((HW.out.1.trans HB.out.2.2.2.2.1 fun k hk e => by have := HW.out.2.1 k e; omega).trans H10.out.2.2 fun k hk e => by omega)
      rcases HW.out.2.2.1 with h0 | ⟨B, o, rfl, hcell⟩
      · exact absurd hju (by rw [h0]; simp)
      obtain ⟨wd, hwd⟩ : ∃ wd, wd = ds[d1]'hju := ⟨_, rfl⟩
      have hc3 := hcell d1 hju
      rw [← hwd] at hc3
      have k0 := cell_kept' hc3.1 hK0 fun e => e
      have k1 := cell_kept' hc3.2.1 hK0 fun e => e
      have k2 := cell_kept' hc3.2.2 hK0 fun e => e
      have hp64 : wd.p ≤ 9223372036854775807 := by rw [hwd]; exact HW.out.2.2.2 _ (List.getElem_mem hju)
      have HTw : Hid (∀ W', Tw W' T a ga b gb gx gy us vs → Calls Try.prog 26 #[.pointer (some ⟨T, 0, none⟩), .agg #[.bool wd.s, .int .i64 wd.p, .int .u32 (wd.x.toNat : Int)]] W' fun e w' => Wrote W' T a ga b gb gx gy us.length vs.length e w') := fun W' h' => twrite_any T a ga b gb gx gy us vs wd.s wd.p wd.x W' h' HL.out.1.f hp64
      obtain ⟨y, hy⟩ : ∃ y : Nat, y = wd.x.toNat := ⟨_, rfl⟩
      rw [← hy] at k2 HTw
      have hfol : Try.prog.follows Departure.mixedOrders = true := by kernel_rfl
      have HBk : Hid (∀ W', Keeps (Hot ga gb gx gy) W10.drew W' → Bx W' H T (some ⟨B, o, none⟩) m cap d1 N (x + 1)) := fun W' hK11 => by
        obtain ⟨_, m1, m2, m3, m4, m5, m6, m7, _, _⟩ := HL.out.1
        exact (H10.out.1.kept ((Keeps.refl (fun _ => False) W10).drew) fun _ e => e.elim).kept hK11 fun k e => by unfold Hot at e; omega
      clear hju hcell hwd hc3 hp64 hy hK0
      have hd1m : (d1 : Int) < (m : Int) := by omega
      have HFin : Hid (∀ (w11 : World) (us' vs' : List UInt32), Tw w11 T a ga b gb gx gy us' vs' → us'.length = us.length → vs'.length = vs.length → Keeps (Hot ga gb gx gy) W10.drew w11 → ((w11.setCell ⟨H + 1 + 1, 0, none⟩ (.int .i64 ((d1 : Int) + 1))).heap[W7.heap.size]? = W.heap[W7.heap.size]? ∧ (w11.setCell ⟨H + 1 + 1, 0, none⟩ (.int .i64 ((d1 : Int) + 1))).heap[W7.heap.size + 1]? = W.heap[W7.heap.size + 1]?) ∧ ThI w H T a ga b gb gx gy B1 B2 (some ⟨B, o, none⟩) m cap N L M (s + 1) (w11.setCell ⟨H + 1 + 1, 0, none⟩ (.int .i64 ((d1 : Int) + 1)))) := by
        intro w11 us' vs' hT11 hl1 hl2 hK11
        have hB11 := HBk.out _ hK11
        have hz := HZ.out
        have hr := HR.out
        have hh := HH.out
        obtain ⟨hll, hh1, hh2⟩ := HL.out
        have hKd : Keeps (· = H + 1 + 1) w11 (w11.setCell ⟨H + 1 + 1, 0, none⟩ (.int .i64 ((d1 : Int) + 1))) := (Keeps.refl (· = H + 1 + 1) w11).setCell ⟨H + 1 + 1, 0, none⟩ _ fun _ => rfl
        have hKa : Keeps (fun k => Hot ga gb gx gy k ∨ k = H + 5 + 1 ∨ k = H + 1 + 1) W (w11.setCell ⟨H + 1 + 1, 0, none⟩ (.int .i64 ((d1 : Int) + 1))) :=
          (((H10.out.2.2.drew.mono (T := fun k => Hot ga gb gx gy k ∨ k = H + 5 + 1 ∨ k = H + 1 + 1) fun _ _ e => .inr (.inl e)).trans hK11 fun _ _ e => .inl e).trans hKd fun _ _ e => .inr (.inr e))
        have hnb : ∀ k, H + 7 ≤ k → ¬ (Hot ga gb gx gy k ∨ k = H + 5 + 1 ∨ k = H + 1 + 1) := fun k hk e => by
          obtain ⟨_, m1, m2, m3, m4, m5, m6, m7, _, _⟩ := hll
          unfold Hot at e; omega
        have hn1 : ¬ (Hot ga gb gx gy B1 ∨ B1 = H + 5 + 1 ∨ B1 = H + 1 + 1) := fun e => by
          rcases e with e | e
          · exact hll.n1 e
          · omega
        have hn2 : ¬ (Hot ga gb gx gy B2 ∨ B2 = H + 5 + 1 ∨ B2 = H + 1 + 1) := fun e => by
          rcases e with e | e
          · exact hll.n2 e
          · omega
        refine ⟨⟨hKa.block _ (by omega) (hnb _ (by omega)), hKa.block _ (by omega) (hnb _ (by omega))⟩, ⟨us', vs', d1 + 1, x + 1, ?_, hl1.trans HB.out.2.1, hl2.trans HB.out.2.2.1, ?_, by omega, by omega, fun j h1 h2 => by omega⟩, ?_, ?_, ?_⟩
        · obtain ⟨_, m1, m2, m3, m4, m5, m6, m7, _, _⟩ := hll
          exact hT11.kept hKd fun k e => by refine ⟨?_, ?_, ?_, ?_, ?_, ?_, ?_⟩ <;> omega
        · exact ⟨hB11.t.kept hKd (by omega), hB11.w.kept hKd (by omega), hB11.d.setCell 0 _, hB11.r1.kept hKd (by omega), hB11.r2.kept hKd (by omega), hB11.n.kept hKd (by omega), hB11.a.kept hKd (by omega)⟩
        · exact HB.out.2.2.2.2.1.trans hKa fun k hk e => by
            rcases e with e | e
            · exact e
            · omega
        · exact cell_kept' HB.out.2.2.2.2.2.1 hKa hn1
        · exact cell_kept' HB.out.2.2.2.2.2.2 hKa hn2
      gi_region_with_o (refine ⟨trivial, ?_⟩; gi_at_call 26; refine (CallsIn.inRound l (callsIn_wide.2 (HTw.out _ (H10.out.2.1.grown (Keeps.refl _ W10).drew)))).mono ?_; rintro e w11 ⟨rfl, us', vs', hT11, hl1, hl2, hK11⟩; have hB11 := HBk.out _ hK11; have cd11 := hB11.d.cell (i := 0) rfl; have zd11 := hB11.d.frozen 0)
      all_goals (gi_wp2; exact HFin.out _ _ _ hT11 hl1 hl2 hK11)
    · have HF : Hid ((W10.heap[W7.heap.size]? = W.heap[W7.heap.size]? ∧ W10.heap[W7.heap.size + 1]? = W.heap[W7.heap.size + 1]?) ∧ ThI w H T a ga b gb gx gy B1 B2 wa m cap N L M (s + 1) W10) := by
        have hz := HZ.out
        have hr := HR.out
        obtain ⟨_, hh1, hh2⟩ := HL.out
        refine ⟨⟨H10.out.2.2.block _ (by omega) (by omega), H10.out.2.2.block _ (by omega) (by omega)⟩, ⟨us, vs, d1, x + 1, H10.out.2.1, HB.out.2.1, HB.out.2.2.1, H10.out.1, by omega, hr.1, fun j h1 h2 => by omega⟩, ?_, ?_, ?_⟩
        · exact HB.out.2.2.2.2.1.trans H10.out.2.2 fun k hk e => by have := HH.out; omega
        · exact cell_kept' HB.out.2.2.2.2.2.1 H10.out.2.2 (by omega)
        · exact cell_kept' HB.out.2.2.2.2.2.2 H10.out.2.2 (by omega)
      gi_wp2
      rw [← HW10.out]
      exact HF.out
  case done =>
    rintro s W hf hi hD
    obtain ⟨⟨us, vs, d1, at', t1, l1, l2, bx, r1, r2, r3⟩, k1, q1, q2⟩ := hi
    have hN16 : N ≤ 16384 := by have := t1.ma.small; have := t1.mb.small; have := HN.out; omega
    have HAl : Hid (∀ k, Calls Try.prog 56 #[.pointer (some ⟨T, 0, none⟩), .int .i64 at', .int .i64 N] (W.drewN k) fun e w' => e = .returned (.bool true) ∧ ∃ k', w' = W.drewN k') := fun k =>
      (talike_any T a ga b gb gx gy us vs at' N (W.drewN k) (t1.grown ((Keeps.refl _ W).drewN k)) hN16 (fun j h1 h2 => r3 j h1 (by have := HN.out; omega))).mono fun e w' he =>
        ⟨he.1, by obtain ⟨k', hk'⟩ := he.2; exact ⟨k + k', by rw [hk']; exact World.drewN_drewN W k k'⟩⟩
    have ct := bx.t.cell (i := 0) rfl
    have cd := bx.d.cell (i := 0) rfl
    have cn := bx.n.cell (i := 0) rfl
    have ca := bx.a.cell (i := 0) rfl
    have HB : Hid (Tw W T a ga b gb gx gy us vs ∧ us.length = L ∧ vs.length = M ∧ Bx W H T wa m cap d1 N at' ∧ Keeps (Hot ga gb gx gy) w W ∧ d1 ≤ m ∧ W.heap[W7.heap.size]? = some (.deferred (some []))) := ⟨t1, l1, l2, bx, k1, r2, hD⟩
    have HSt : Hid (∀ k, (((W.drewN k).setCell ⟨H + 1 + 1 + 1, 0, none⟩ (.int .i64 (d1 : Int))).setCell ⟨H + 1 + 1 + 1 + 1, 0, none⟩ (.bool true)).cell? ⟨H + 1 + 1 + 1, 0, none⟩ = some (.int .i64 (d1 : Int)) ∧
        (((W.drewN k).setCell ⟨H + 1 + 1 + 1, 0, none⟩ (.int .i64 (d1 : Int))).setCell ⟨H + 1 + 1 + 1 + 1, 0, none⟩ (.bool true)).cell? ⟨H + 1 + 1 + 1 + 1, 0, none⟩ = some (.bool true)) := fun k => by
      have a1 := (((bx.r1.drewN k).setCell 0 (.int .i64 (d1 : Int))).setCell_ne (a := ⟨H + 1 + 1 + 1 + 1, 0, none⟩) (by show H + 1 + 1 + 1 ≠ H + 1 + 1 + 1 + 1; omega) (.bool true)).cell (i := 0) rfl
      have a2 := (((bx.r2.drewN k).setCell_ne (a := ⟨H + 1 + 1 + 1, 0, none⟩) (by show H + 1 + 1 + 1 + 1 ≠ H + 1 + 1 + 1; omega) (.int .i64 (d1 : Int))).setCell 0 (.bool true)).cell (i := 0) rfl
      exact ⟨a1, a2⟩
    clear t1 l1 l2 bx r1 r2 r3 k1 q1 q2 hD hf kp HI hdn
    have HK1 : Hid (∀ k, Keeps (· = H + 1 + 1 + 1) W ((W.drewN k).setCell ⟨H + 1 + 1 + 1, 0, none⟩ (.int .i64 (d1 : Int)))) := fun k => ((Keeps.refl (· = H + 1 + 1 + 1) W).drewN k).setCell ⟨H + 1 + 1 + 1, 0, none⟩ _ fun _ => rfl
    have HK2 : Hid (∀ k, Keeps (fun j => j = H + 1 + 1 + 1 ∨ j = H + 1 + 1 + 1 + 1) W (((W.drewN k).setCell ⟨H + 1 + 1 + 1, 0, none⟩ (.int .i64 (d1 : Int))).setCell ⟨H + 1 + 1 + 1 + 1, 0, none⟩ (.bool true))) := fun k =>
      (((Keeps.refl (fun j => j = H + 1 + 1 + 1 ∨ j = H + 1 + 1 + 1 + 1) W).drewN k).setCell ⟨H + 1 + 1 + 1, 0, none⟩ _ fun _ => .inl rfl).setCell ⟨H + 1 + 1 + 1 + 1, 0, none⟩ _ fun _ => .inr rfl
    have HS2 : Hid (∀ k, ((W.drewN k).setCell ⟨H + 1 + 1 + 1, 0, none⟩ (.int .i64 (d1 : Int))).cell? ⟨H, 0, none⟩ = some (.pointer (some ⟨T, 0, none⟩)) ∧ ((W.drewN k).setCell ⟨H + 1 + 1 + 1, 0, none⟩ (.int .i64 (d1 : Int))).cell? ⟨H + 1 + 1, 0, none⟩ = some (.int .i64 (d1 : Int)) ∧ ((W.drewN k).setCell ⟨H + 1 + 1 + 1, 0, none⟩ (.int .i64 (d1 : Int))).cell? ⟨H + 5, 0, none⟩ = some (.int .i64 (N : Int)) ∧ ((W.drewN k).setCell ⟨H + 1 + 1 + 1, 0, none⟩ (.int .i64 (d1 : Int))).cell? ⟨H + 5 + 1, 0, none⟩ = some (.int .i64 (at' : Int))) := fun k =>
      ⟨cell_kept' ct (HK1.out k) (by omega), cell_kept' cd (HK1.out k) (by omega), cell_kept' cn (HK1.out k) (by omega), cell_kept' ca (HK1.out k) (by omega)⟩
    have HS3 : Hid (∀ k, (((W.drewN k).setCell ⟨H + 1 + 1 + 1, 0, none⟩ (.int .i64 (d1 : Int))).setCell ⟨H + 1 + 1 + 1 + 1, 0, none⟩ (.bool true)).cell? ⟨H, 0, none⟩ = some (.pointer (some ⟨T, 0, none⟩)) ∧ (((W.drewN k).setCell ⟨H + 1 + 1 + 1, 0, none⟩ (.int .i64 (d1 : Int))).setCell ⟨H + 1 + 1 + 1 + 1, 0, none⟩ (.bool true)).cell? ⟨H + 1 + 1, 0, none⟩ = some (.int .i64 (d1 : Int)) ∧ (((W.drewN k).setCell ⟨H + 1 + 1 + 1, 0, none⟩ (.int .i64 (d1 : Int))).setCell ⟨H + 1 + 1 + 1 + 1, 0, none⟩ (.bool true)).cell? ⟨H + 5, 0, none⟩ = some (.int .i64 (N : Int)) ∧ (((W.drewN k).setCell ⟨H + 1 + 1 + 1, 0, none⟩ (.int .i64 (d1 : Int))).setCell ⟨H + 1 + 1 + 1 + 1, 0, none⟩ (.bool true)).cell? ⟨H + 5 + 1, 0, none⟩ = some (.int .i64 (at' : Int))) := fun k =>
      ⟨cell_kept' ct (HK2.out k) (by omega), cell_kept' cd (HK2.out k) (by omega), cell_kept' cn (HK2.out k) (by omega), cell_kept' ca (HK2.out k) (by omega)⟩
    have z1 := HB.out.2.2.2.1.r1.frozen 0
    have z2 := HB.out.2.2.2.1.r2.frozen 0
    have y1 := HB.out.2.2.2.1.r1.cell (i := 0) rfl
    have y2 := HB.out.2.2.2.1.r2.cell (i := 0) rfl
    gi_wp2
    go_wp2
    go_region_held3 (fun w' => w'.cell? ⟨H, 0, none⟩ = some (.pointer (some ⟨T, 0, none⟩)) ∧ w'.cell? ⟨H + 1 + 1, 0, none⟩ = some (.int .i64 (d1 : Int)) ∧ w'.cell? ⟨H + 5, 0, none⟩ = some (.int .i64 (N : Int)) ∧ w'.cell? ⟨H + 5 + 1, 0, none⟩ = some (.int .i64 (at' : Int))) (first | exact hS | exact HS2.out _ | exact HS3.out _ | go_keep)
      (first | (go_at_call 56; refine (HAl.out 1).mono ?_; rintro e w8 ⟨rfl, k8, hk8⟩; have y1' : w8.cell? ⟨H + 1 + 1 + 1, 0, none⟩ = some (.int .i64 0) := (by rw [hk8]; exact y1); have y2' : w8.cell? ⟨H + 1 + 1 + 1 + 1, 0, none⟩ = some (.bool false) := (by rw [hk8]; exact y2); have z1' : w8.frozen? ⟨H + 1 + 1 + 1, 0, none⟩ = false := (by rw [hk8]; exact z1); have z2' : w8.frozen? ⟨H + 1 + 1 + 1 + 1, 0, none⟩ = false := (by rw [hk8]; exact z2); have hS : w8.cell? ⟨H, 0, none⟩ = some (.pointer (some ⟨T, 0, none⟩)) ∧ w8.cell? ⟨H + 1 + 1, 0, none⟩ = some (.int .i64 (d1 : Int)) ∧ w8.cell? ⟨H + 5, 0, none⟩ = some (.int .i64 (N : Int)) ∧ w8.cell? ⟨H + 5 + 1, 0, none⟩ = some (.int .i64 (at' : Int)) := (by rw [hk8]; exact ⟨ct, cd, cn, ca⟩)))
    go_wp2
    have hz := HZ.out
    have hh := HH.out
    have hb := HB.out
    have hKf := HK2.out k8
    have hd := obj_kept2 hb.2.2.2.2.2.2 hKf (by omega)
    have hrs := HSt.out k8
    obtain ⟨hll, hh1, hh2⟩ := HL.out
    obtain ⟨_, m1, m2, m3, m4, m5, m6, m7, _, _⟩ := hll
    have hTf := hb.1.kept hKf fun k e => by refine ⟨?_, ?_, ?_, ?_, ?_, ?_, ?_⟩ <;> omega
    revert hKf hd hrs hTf
    generalize ((W.drewN k8).setCell ⟨H + 1 + 1 + 1, 0, none⟩ (.int .i64 (d1 : Int))).setCell ⟨H + 1 + 1 + 1 + 1, 0, none⟩ (.bool true) = WF
    intro hKf hd hrs hTf
    have hKg : Keeps (· = W7.heap.size) WF (WF.putObj W7.heap.size (.deferred none)) := ⟨rfl, rfl, rfl, by simp, fun k _ hn => World.putObj_heap_other hn⟩
    have u1 := cell_kept' hrs.1 hKg (by omega)
    have u2 := cell_kept' hrs.2 hKg (by omega)
    refine ⟨by simp, .inl ⟨_, _, rfl, run_takeDeferred hd, ?_⟩⟩
    refine ⟨_, results_cell_two rfl _ _ (H + 1 + 1 + 1) (H + 1 + 1 + 1 + 1) (.int .i64 (d1 : Int)) (.bool true) rfl rfl (by simp [go_sem, u1]) (by simp [go_sem, u2]), d1, hb.2.2.2.2.2.1, rfl, ⟨us, vs, hTf.kept hKg fun k e => by refine ⟨?_, ?_, ?_, ?_, ?_, ?_, ?_⟩ <;> omega, hb.2.1, hb.2.2.1⟩, ?_⟩
    exact (hb.2.2.2.2.1.trans hKf fun k hk e => by omega).trans hKg fun k hk e => by omega

end Go.Proofs.Ytljhdijledclhaa
