import Derived.Test.YtpccdhoaicabcaaWr
import Derived.Test.YtpccdhoaicabcaaTr
import Derived.Test.YtpccdhoaicabcaaLi4
namespace Go.Proofs.Ytpccdhoaicabcaa
open Go.RowKit Go.Shelf
attribute [local go_sem] Oper.semAt_some
set_option linter.unusedVariables false
set_option linter.unusedSimpArgs false

/-- Where going through is. -/
structure ThI (w : World) (H P b g rb rg n : Nat) (root : Int) (B1 B2 : Nat) (a : Option Addr) (L c d0 s : Nat) (W : World) : Prop where
  ex : ∃ (xs : List UInt32) (at' d : Nat), Pr W P b g rb rg n xs ∧ Blk W (H + 3) [.int .i64 d] 3 ∧ Blk W (H + 6) [.int .i64 at'] 3 ∧ at' ≤ s ∧ d ≤ d0 + s ∧ ∀ j : Nat, at' ≤ j → j < s → walkE n xs root j ≠ 0
  le : s ≤ 256
  x0 : Blk W H [.pointer (some ⟨P, 0, none⟩)] 23
  x1 : Blk W (H + 1) [.int .i64 root] 3
  x2 : Blk W (H + 2) [.slice a L c] 65
  x4 : Blk W (H + 4) [.int .i64 0] 3
  x5 : Blk W (H + 5) [.bool false] 4
  b1 : W.cell? ⟨B1, 0, none⟩ = some (.pointer (some ⟨b, 0, none⟩))
  b2 : W.cell? ⟨B2, 0, none⟩ = some (.int .i64 root)
  k : Keeps (fun k => k = g ∨ k = rg) w W

/-- What lies below. -/
structure ThH (w : World) (H P b g rb rg B1 B2 : Nat) (a : Option Addr) : Prop where
  h : w.heap.size = H
  pl : P < H
  bl : b < H
  gl : g < H
  rbl : rb < H
  rgl : rg < H
  b1 : B1 < H
  b2 : B2 < H
  n1 : B1 ≠ g ∧ B1 ≠ rg
  n2 : B2 ≠ g ∧ B2 ≠ rg

theorem ThI.kept {S : Nat → Prop} {w : World} {H P b g rb rg n : Nat} {root : Int} {B1 B2 : Nat} {a : Option Addr} {L c d0 s : Nat} {W W' : World} (h : ThI w H P b g rb rg n root B1 B2 a L c d0 s W) (hh : ThH w H P b g rb rg B1 B2 a) (hK : Keeps S W W') (hS : ∀ k, S k → H + 7 ≤ k) :
    ThI w H P b g rb rg n root B1 B2 a L c d0 s W' := by
  have f : ∀ k, k < H + 7 → ¬ S k := fun k hk e => by have := hS k e; omega
  obtain ⟨xs, at', d, p1, p2, p3, p4, p5, p6⟩ := h.ex
  have q := hh.pl
  have q1 := hh.bl
  have q2 := hh.gl
  have q3 := hh.rbl
  have q4 := hh.rgl
  have q5 := hh.b1
  have q6 := hh.b2
  exact ⟨⟨xs, at', d, p1.kept hK (f _ (by omega)) (f _ (by omega)) (f _ (by omega)) (f _ (by omega)) (f _ (by omega)), p2.kept hK (f _ (by omega)), p3.kept hK (f _ (by omega)), p4, p5, p6⟩, h.le, h.x0.kept hK (f _ (by omega)), h.x1.kept hK (f _ (by omega)), h.x2.kept hK (f _ (by omega)),
    h.x4.kept hK (f _ (by omega)), h.x5.kept hK (f _ (by omega)), cell_kept h.b1 hK (f _ (by omega)), cell_kept h.b2 hK (f _ (by omega)), h.k.trans hK fun k hk e => by have := hS k e; have := hh.h; omega⟩

theorem results_cell2 {P : Program} {fn : Func} {p u : Tmp} {t1 t2 : TypeId} (h : fn.results = #[.cell p t1, .cell u t2]) (tmps : Array Value) (w : World) (a a' : Addr) (v v' : Value)
    (hp : tmps.getD p undef = .pointer (some a)) (hl : (loadVar t1 a).run P w = .ok v w) (hp' : tmps.getD u undef = .pointer (some a')) (hl' : (loadVar t2 a').run P w = .ok v' w) : (results fn tmps).run P w = .ok (.tuple #[v, v']) w := by
  have e1 : tmps[p]?.getD undef = .pointer (some a) := by simpa using hp
  have e2 : tmps[u]?.getD undef = .pointer (some a') := by simpa using hp'
  simp [results, h, e1, e2, asAddr, hl, hl']

set_option maxRecDepth 20000 in
set_option maxHeartbeats 8000000 in
theorem through_any (P b g rb rg n : Nat) (xs : List UInt32) (root : Int) (B1 B2 : Nat) (a : Option Addr) (ks : List Wk) (c d0 : Nat) (w : World) (h : Pr w P b g rb rg n xs) (hr : I64 root)
    (q1 : w.cell? ⟨B1, 0, none⟩ = some (.pointer (some ⟨b, 0, none⟩))) (q2 : w.cell? ⟨B2, 0, none⟩ = some (.int .i64 root)) (hl : ks.length ≤ c ∧ c ≤ maxLen) (hs : SegK w a ks) (hk : ∀ k, k ∈ ks → I64 k.p)
    (ha : ks ≠ [] → ∀ x, a = some x → x.block ≠ g ∧ x.block ≠ rg) (hB1 : B1 ≠ g ∧ B1 ≠ rg) (hB2 : B2 ≠ g ∧ B2 ≠ rg) (hd : d0 ≤ 90000) :
    Calls Try.prog 21 #[.pointer (some ⟨P, 0, none⟩), .int .i64 root, .func (.func 38) #[] #[.pointer (some ⟨B1, 0, none⟩), .pointer (some ⟨B2, 0, none⟩)], .slice a ks.length c, .int .i64 d0] w fun e w' =>
      ∃ d xs', d ≤ d0 + 256 ∧ e = .returned (.tuple #[.int .i64 (d : Nat), .bool true]) ∧ Pr w' P b g rb rg n xs' ∧ Keeps (fun k => k = g ∨ k = rg) w w' := by
  obtain ⟨H, hH⟩ : ∃ H, H = w.heap.size := ⟨_, rfl⟩
  have hThH : ThH w H P b g rb rg B1 B2 a := ⟨hH.symm, by rw [hH]; exact h.p.lt, by rw [hH]; exact h.m.mm.blk.lt, by rw [hH]; exact h.m.mm.row.lt, by rw [hH]; exact h.r.blk.lt, by rw [hH]; exact h.r.row.lt, by rw [hH]; exact World.block_lt_of_cell? w _ q1, by rw [hH]; exact World.block_lt_of_cell? w _ q2, hB1, hB2⟩
  obtain ⟨L, hL⟩ : ∃ L, L = ks.length := ⟨_, rfl⟩
  obtain ⟨W7, hW7⟩ : ∃ W7, W7 = ((((((w.alloc (.cells #[.pointer (some ⟨P, 0, none⟩)] 23)).alloc (.cells #[.int .i64 root] 3)).alloc (.cells #[.slice a L c] 65)).alloc (.cells #[.int .i64 (d0 : Int)] 3)).alloc (.cells #[.int .i64 0] 3)).alloc (.cells #[.bool false] 4)).alloc (.cells #[.int .i64 0] 3) := ⟨_, rfl⟩
  have hI0 : ThI w H P b g rb rg n root B1 B2 a L c d0 0 W7 ∧ W7.heap.size = H + 7 := by
    have hK : Keeps (fun _ => False) w W7 := by rw [hW7]; exact (((((((Keeps.refl _ w).alloc _).alloc _).alloc _).alloc _).alloc _).alloc _).alloc _
    have e0 := ((((((Blk.new w #[.pointer (some ⟨P, 0, none⟩)] 23).alloc (.cells #[.int .i64 root] 3)).alloc (.cells #[.slice a L c] 65)).alloc (.cells #[.int .i64 (d0 : Int)] 3)).alloc (.cells #[.int .i64 0] 3)).alloc (.cells #[.bool false] 4)).alloc (.cells #[.int .i64 0] 3)
    have e1 := (((((Blk.new (w.alloc (.cells #[.pointer (some ⟨P, 0, none⟩)] 23)) #[.int .i64 root] 3).alloc (.cells #[.slice a L c] 65)).alloc (.cells #[.int .i64 (d0 : Int)] 3)).alloc (.cells #[.int .i64 0] 3)).alloc (.cells #[.bool false] 4)).alloc (.cells #[.int .i64 0] 3)
    have e2 := ((((Blk.new ((w.alloc (.cells #[.pointer (some ⟨P, 0, none⟩)] 23)).alloc (.cells #[.int .i64 root] 3)) #[.slice a L c] 65).alloc (.cells #[.int .i64 (d0 : Int)] 3)).alloc (.cells #[.int .i64 0] 3)).alloc (.cells #[.bool false] 4)).alloc (.cells #[.int .i64 0] 3)
    have e3 := (((Blk.new (((w.alloc (.cells #[.pointer (some ⟨P, 0, none⟩)] 23)).alloc (.cells #[.int .i64 root] 3)).alloc (.cells #[.slice a L c] 65)) #[.int .i64 (d0 : Int)] 3).alloc (.cells #[.int .i64 0] 3)).alloc (.cells #[.bool false] 4)).alloc (.cells #[.int .i64 0] 3)
    have e4 := ((Blk.new ((((w.alloc (.cells #[.pointer (some ⟨P, 0, none⟩)] 23)).alloc (.cells #[.int .i64 root] 3)).alloc (.cells #[.slice a L c] 65)).alloc (.cells #[.int .i64 (d0 : Int)] 3)) #[.int .i64 0] 3).alloc (.cells #[.bool false] 4)).alloc (.cells #[.int .i64 0] 3)
    have e5 := (Blk.new (((((w.alloc (.cells #[.pointer (some ⟨P, 0, none⟩)] 23)).alloc (.cells #[.int .i64 root] 3)).alloc (.cells #[.slice a L c] 65)).alloc (.cells #[.int .i64 (d0 : Int)] 3)).alloc (.cells #[.int .i64 0] 3)) #[.bool false] 4).alloc (.cells #[.int .i64 0] 3)
    have e6 := Blk.new ((((((w.alloc (.cells #[.pointer (some ⟨P, 0, none⟩)] 23)).alloc (.cells #[.int .i64 root] 3)).alloc (.cells #[.slice a L c] 65)).alloc (.cells #[.int .i64 (d0 : Int)] 3)).alloc (.cells #[.int .i64 0] 3)).alloc (.cells #[.bool false] 4)) #[.int .i64 0] 3
    simp only [World.size_alloc, ← hH] at e1 e2 e3 e4 e5 e6
    rw [← hH] at e0
    rw [← hW7] at e0 e1 e2 e3 e4 e5 e6
    exact ⟨⟨⟨xs, 0, d0, h.grown hK, e3, e6, by omega, by omega, fun j h1 h2 => by omega⟩, by omega, e0, e1, e2, e4, e5, cell_kept q1 hK fun h => h, cell_kept q2 hK fun h => h, hK.mono fun _ _ h => h.elim⟩, by rw [hW7]; simp [hH]⟩
  have HW : Hid (W7 = ((((((w.alloc (.cells #[.pointer (some ⟨P, 0, none⟩)] 23)).alloc (.cells #[.int .i64 root] 3)).alloc (.cells #[.slice a L c] 65)).alloc (.cells #[.int .i64 (d0 : Int)] 3)).alloc (.cells #[.int .i64 0] 3)).alloc (.cells #[.bool false] 4)).alloc (.cells #[.int .i64 0] 3)) := hW7
  have HI : Hid (ThI w H P b g rb rg n root B1 B2 a L c d0 0 W7 ∧ W7.heap.size = H + 7) := hI0
  have HT : Hid (ThH w H P b g rb rg B1 B2 a ∧ H = w.heap.size) := ⟨hThH, hH⟩
  have HQ : Hid (I64 root ∧ (ks.length ≤ c ∧ c ≤ maxLen) ∧ SegK w a ks ∧ (∀ k, k ∈ ks → I64 k.p) ∧ d0 ≤ 90000 ∧ L = ks.length ∧ (ks ≠ [] → ∀ x, a = some x → x.block ≠ g ∧ x.block ≠ rg)) := ⟨hr, hl, hs, hk, hd, hL, ha⟩
  rw [← hL]
  clear hThH hW7 hI0 h hr q1 q2 hl hs hk ha hB1 hB2 hd hL
  refine (callsIn_wide (n := 8)).1 ?_
  refine callsIn_of_wp_marks Try.func21 rfl trivial ?_ rfl
  refine wpIn_wide.2 ?_
  simp only [Try.ntmps21, List.size_toArray, List.length_cons, List.length_nil, Nat.reduceAdd, Nat.reduceSub, Array.replicate_succ, Array.replicate_zero, List.push_toArray, List.append_toArray, List.nil_append, List.cons_append]
  go_wp2
  rw [← HW.out]
  simp only [← hH]
  clear hH
  have kp : ∀ s W W', Keeps (fun k => k = W7.heap.size ∨ k = W7.heap.size + 1) W W' → ThI w H P b g rb rg n root B1 B2 a L c d0 s W → ThI w H P b g rb rg n root B1 B2 a L c d0 s W' := fun s W W' hK h =>
    h.kept HT.out.1 hK fun k e => by have := HI.out.2; omega
  refine (wpIn_wide (n := 8)).1 ?_
  refine range_live4 (σ := Nat) (α := Lf) rfl (by omega) (gf := 38) (lb := #[.pointer (some ⟨B1, 0, none⟩), .pointer (some ⟨B2, 0, none⟩)]) rfl trivial (enters_of Try.func38 (by kernel_rfl) rfl)
    (leaves_tells 7 B1 B2 b g n root) (fun _ => rfl) (ThI w H P b g rb rg n root B1 B2 a L c d0) (fun _ _ => False) kp
    (fun s x W W' hK hi ht => ?tell) (fun _ _ _ _ h => h) (fun s W hz hi => ?good) (fun s s' W hi hs => ?skip) HI.out.1 ?body ?done ?stop
  case stop =>
    rintro c W h _
    exact h.elim
  case good =>
    obtain ⟨us, at', d, p1, _⟩ := hi.ex
    exact ⟨hi.b1, hi.b2, us, p1.m⟩
  case tell =>
    obtain ⟨us, at', d, p1, _⟩ := hi.ex
    have hm := p1.m.kept hK (by have := HI.out.2; have := HT.out.1.bl; omega) (by have := HI.out.2; have := HT.out.1.gl; omega)
    refine ⟨ht.1, ht.2.1, fun ys hy => ?_⟩
    rw [← hm.inj hy]; exact ht.2.2 us p1.m
  case skip =>
    obtain ⟨rfl, hlt, hn⟩ := hs
    obtain ⟨us, at', d, p1, p2, p3, p4, p5, p6⟩ := hi.ex
    refine ⟨⟨us, at', d, p1, p2, p3, by omega, by omega, fun j h1 h2 => ?_⟩, by omega, hi.x0, hi.x1, hi.x2, hi.x4, hi.x5, hi.b1, hi.b2, hi.k⟩
    by_cases hj : j < s
    · exact p6 j h1 hj
    · obtain rfl : j = s := by omega
      exact hn us p1.m
  case body =>
    intro l s x W0 hW0 _ _
    unfold encL
    gi_wp2
    refine ⟨(Keeps.refl _ W0).alloc _, ?_⟩
    intro W hkA hlt hi ht
    obtain ⟨us, at', d, p1, p2, p3, p4, p5, p6⟩ := hi.ex
    obtain ⟨t1, t2, t30⟩ := ht
    obtain ⟨t3, t4⟩ := t30 us p1.m
    clear t30
    obtain ⟨xp, xf, xr⟩ := x
    simp only at t1
    subst t1
    obtain ⟨Lb, hLb⟩ : ∃ Lb, Lb = W0.heap.size := ⟨_, rfl⟩
    have hBl : Blk W Lb [.int .i64 (xp : Nat), .int .i64 (xf : Nat), .int .i64 (xr : Nat)] 51 := by rw [hLb]; exact (Blk.new W0 _ 51).kept hkA (by omega)
    rw [← hLb]
    have hz7 := HI.out.2
    have HLb : Hid (H + 9 ≤ Lb) := by show H + 9 ≤ Lb; omega
    have l0 := hBl.cell (i := 0) rfl
    have l1 := hBl.cell (i := 1) rfl
    have l2 := hBl.cell (i := 2) rfl
    have c0 := hi.x0.cell (i := 0) rfl
    have c1 := hi.x1.cell (i := 0) rfl
    have c6 := p3.cell (i := 0) rfl
    have hat : (at' : Int) ≤ xp := by omega
    have hxp : (xp : Int) < 256 := by omega
    have HN : Hid (Calls _ _ _ _ _) := none_any P b g rb rg n us root at' xp W p1 HQ.out.1 (by omega) p4 p6
    have HJ : Hid (ThI w H P b g rb rg n root B1 B2 a L c d0 xp W ∧ Pr W P b g rb rg n us ∧ Blk W (H + 3) [.int .i64 d] 3 ∧ Blk W (H + 6) [.int .i64 at'] 3 ∧ Blk W Lb [.int .i64 (xp : Nat), .int .i64 (xf : Nat), .int .i64 (xr : Nat)] 51 ∧ d ≤ d0 + xp ∧ W7.heap.size + 1 < W.heap.size) := ⟨hi, p1, p2, p3, hBl, p5, hlt⟩
    have HX : Hid (walkE n us root xp = 0 ∧ (⟨xp, xf, xr⟩ : Lf) = walkL n us root xp) := ⟨t3, t4⟩
    clear hi p1 p2 p3 p4 p5 p6 t2 t3 t4 hLb hBl hkA hlt hW0 kp hz7
    gi_wp2_with fail
    refine ⟨trivial, ?_⟩
    refine (CallsIn.inRound l (callsIn_wide.2 HN.out)).mono ?_
    rintro e W2 ⟨rfl, hK2⟩
    have hj := HJ.out
    have pr2 := hj.2.1.grown hK2
    have d0' := (hj.1.x0.kept hK2 fun h => h).cell (i := 0) rfl
    have d1' := (hj.1.x1.kept hK2 fun h => h).cell (i := 0) rfl
    have dP := pr2.p.cell (i := 1) rfl
    have dL0 := (hj.2.2.2.2.1.kept hK2 fun h => h).cell (i := 0) rfl
    have HWk := rwalk_any rb rg n us root xp W2.drew (pr2.r.grown ((Keeps.refl _ W2).drew)) HQ.out.1.1 HQ.out.1.2
    rw [HX.out.1, ← HX.out.2] at HWk
    have HWk : Hid (Calls _ _ _ _ _) := HWk
    have H2 : Hid (Keeps (fun _ => False) W W2) := hK2
    clear hj pr2 hK2 HN l0 l1 l2 c0 c1 c6
    gi_wp2_with fail
    refine region_inRound Try.mixed (noDefer_of (by kernel_rfl)) ?nq (fun w' => w'.cell? ⟨H, 0, none⟩ = some (.pointer (some ⟨P, 0, none⟩)) ∧ w'.cell? ⟨P, 1, none⟩ = some (.pointer (some ⟨rb, 0, none⟩)) ∧ w'.cell? ⟨H + 1, 0, none⟩ = some (.int .i64 root) ∧ w'.cell? ⟨Lb, 0, none⟩ = some (.int .i64 (xp : Nat))) ⟨d0', dP, d1', dL0⟩ (fun hHeld => ?_)
    case nq =>
      rintro ⟨a, w, h⟩
      exact h
    simp only [List.size_toArray, List.length_cons, List.length_nil, Nat.reduceAdd, Array.replicate_succ, Array.replicate_zero, List.push_toArray, List.append_toArray, List.nil_append, List.cons_append]
    refine wpAnyH_take (i := 0) (v := .pointer (some ⟨P, 0, none⟩)) rfl (by kernel_rfl) (by kernel_rfl) (by kernel_rfl) (fun _ _ _ h => h) (Or.inl ⟨by kernel_rfl, by (intro w hSw; (try dsimp only at hSw); go_simp)⟩) hHeld ?_
    simp only [Act.put, List.setIfInBounds_toArray, List.set_cons_zero, List.set_cons_succ]
    refine wpAnyH_take (i := 1) (v := .pointer (some ⟨P, 0, none⟩)) rfl (by kernel_rfl) (by kernel_rfl) (by kernel_rfl) (fun _ _ _ h => h) (Or.inl ⟨by kernel_rfl, by (intro w hSw; (try dsimp only at hSw); go_simp)⟩) hHeld ?_
    simp only [Act.put, List.setIfInBounds_toArray, List.set_cons_zero, List.set_cons_succ]
    refine wpAnyH_take (i := 2) (v := .pointer (some ⟨P, 1, none⟩)) rfl (by kernel_rfl) (by kernel_rfl) (by kernel_rfl) (fun _ _ _ h => h) (Or.inl ⟨by kernel_rfl, by (intro w hSw; (try dsimp only at hSw); go_simp)⟩) hHeld ?_
    simp only [Act.put, List.setIfInBounds_toArray, List.set_cons_zero, List.set_cons_succ]
    refine wpAnyH_take (i := 3) (v := .pointer (some ⟨rb, 0, none⟩)) rfl (by kernel_rfl) (by kernel_rfl) (by kernel_rfl) (fun _ _ _ h => h) (Or.inl ⟨by kernel_rfl, by (intro w hSw; (try dsimp only at hSw); go_simp)⟩) hHeld ?_
    simp only [Act.put, List.setIfInBounds_toArray, List.set_cons_zero, List.set_cons_succ]
    refine wpAnyH_take (i := 4) (v := .int .i64 root) rfl (by kernel_rfl) (by kernel_rfl) (by kernel_rfl) (fun _ _ _ h => h) (Or.inl ⟨by kernel_rfl, by (intro w hSw; (try dsimp only at hSw); go_simp)⟩) hHeld ?_
    simp only [Act.put, List.setIfInBounds_toArray, List.set_cons_zero, List.set_cons_succ]
    refine wpAnyH_take (i := 5) (v := .pointer (some ⟨Lb, 0, none⟩)) rfl (by kernel_rfl) (by kernel_rfl) (by kernel_rfl) (fun _ _ _ h => h) (Or.inl ⟨by kernel_rfl, by (intro w hSw; (try dsimp only at hSw); go_simp)⟩) hHeld ?_
    simp only [Act.put, List.setIfInBounds_toArray, List.set_cons_zero, List.set_cons_succ]
    refine wpAnyH_take (i := 6) (v := .int .i64 (xp : Nat)) rfl (by kernel_rfl) (by kernel_rfl) (by kernel_rfl) (fun _ _ _ h => h) (Or.inl ⟨by kernel_rfl, by (intro w hSw; (try dsimp only at hSw); go_simp)⟩) hHeld ?_
    simp only [Act.put, List.setIfInBounds_toArray, List.set_cons_zero, List.set_cons_succ]
    refine wpAnyH_ready (rs := [7, 11]) (by kernel_rfl) (by simp) ?_
    refine AllReadyH.cons rfl (fun K hK => ?_) (AllReadyH.cons rfl (fun K hK => ?_) AllReadyH.nil)
    · go_simp
      refine HWk.out.mono ?_
      rintro e W3 ⟨rfl, hK3⟩
      have hk := ((Keeps.refl _ W2).drew).trans hK3 fun _ _ h => h
      have s0 := cell_kept d0' hk fun h => h
      have s1 := cell_kept dP hk fun h => h
      have s2 := cell_kept d1' hk fun h => h
      have s3 := cell_kept dL0 hk fun h => h
      refine hK.out _ _ ⟨s0, s1, s2, s3⟩ (fun hHeld => ?_)
      simp only [Act.put, List.setIfInBounds_toArray, List.set_cons_zero, List.set_cons_succ]
      refine wpAnyH_take (i := 8) (v := .tuple #[.agg #[.int .i64 (xp : Nat), .int .i64 (xf : Nat), .int .i64 (xr : Nat)], .int .i64 0]) rfl (by kernel_rfl) (by kernel_rfl) (by kernel_rfl) (fun _ _ _ h => h) (Or.inl ⟨by kernel_rfl, by (intro w hSw; (try dsimp only at hSw); go_simp)⟩) hHeld ?_
      simp only [Act.put, List.setIfInBounds_toArray, List.set_cons_zero, List.set_cons_succ]
      refine wpAnyH_take (i := 9) (v := .agg #[.int .i64 (xp : Nat), .int .i64 (xf : Nat), .int .i64 (xr : Nat)]) rfl (by kernel_rfl) (by kernel_rfl) (by kernel_rfl) (fun _ _ _ h => h) (Or.inl ⟨by kernel_rfl, by (intro w hSw; (try dsimp only at hSw); go_simp)⟩) hHeld ?_
      simp only [Act.put, List.setIfInBounds_toArray, List.set_cons_zero, List.set_cons_succ]
      refine wpAnyH_take (i := 10) (v := .int .i64 0) rfl (by kernel_rfl) (by kernel_rfl) (by kernel_rfl) (fun _ _ _ h => h) (Or.inl ⟨by kernel_rfl, by (intro w hSw; (try dsimp only at hSw); go_simp)⟩) hHeld ?_
      simp only [Act.put, List.setIfInBounds_toArray, List.set_cons_zero, List.set_cons_succ]
      refine wpAnyH_ready (rs := [11]) (by kernel_rfl) (by simp) ?_
      refine AllReadyH.cons rfl (fun K hK => ?_) AllReadyH.nil
      go_simp
      have kz := (Keeps.refl (fun _ => False) W3).alloc (.cells #[.int .i64 0, .int .i64 0, .int .i64 0] 51)
      refine hK.out _ _ ⟨cell_kept s0 kz fun h => h, cell_kept s1 kz fun h => h, cell_kept s2 kz fun h => h, cell_kept s3 kz fun h => h⟩ (fun hHeld => ?_)
      simp only [Act.put, List.setIfInBounds_toArray, List.set_cons_zero, List.set_cons_succ]
      refine wpAnyH_ready (rs := [12]) (by kernel_rfl) (by simp) ?_
      refine AllReadyH.cons rfl (fun K hK => ?_) AllReadyH.nil
      go_simp
      have kf := (Keeps.refl (fun _ => False) W3).alloc (.cells #[.int .i64 (xp : Nat), .int .i64 (xf : Nat), .int .i64 (xr : Nat)] 51)
      refine hK.out _ _ ⟨cell_kept s0 kf fun h => h, cell_kept s1 kf fun h => h, cell_kept s2 kf fun h => h, cell_kept s3 kf fun h => h⟩ (fun hHeld => ?_)
      simp only [Act.put, List.setIfInBounds_toArray, List.set_cons_zero, List.set_cons_succ]
      refine wpAnyH_take (i := 13) (v := .int .i64 0) rfl (by kernel_rfl) (by kernel_rfl) (by kernel_rfl) (fun _ _ _ h => h) (Or.inl ⟨by kernel_rfl, by (intro w hSw; (try dsimp only at hSw); go_simp)⟩) hHeld ?_
      simp only [Act.put, List.setIfInBounds_toArray, List.set_cons_zero, List.set_cons_succ]
      refine wpAnyH_done (by kernel_rfl) ?_ _
      have hBf := Blk.new W3 #[.int .i64 (xp : Nat), .int .i64 (xf : Nat), .int .i64 (xr : Nat)] 51
      have hKf := hk.trans kf fun _ _ h => h
      have hMg : g < W3.heap.size ∧ rg < W3.heap.size := by have := HT.out.1.gl; have := HT.out.1.rgl; have := HI.out.2; have := HJ.out.2.2.2.2.2.2; have := H2.out.size; have := hk.size; omega
      clear hHeld hK kz kf s0 s1 s2 s3 hk hK3
      revert hBf hKf hMg
      generalize W3.alloc (.cells #[.int .i64 (xp : Nat), .int .i64 (xf : Nat), .int .i64 (xr : Nat)] 51) = Wf
      generalize W3.heap.size = M
      intro hBf hKf hMg
      obtain ⟨hj1, hj2, hj3, hj4, hj5, hj6, hj7⟩ := HJ.out
      have hkW := H2.out.trans hKf fun _ _ h => h
      have prf := hj2.grown hkW
      have e0 := (hj1.x0.kept hkW fun h => h).cell (i := 0) rfl
      have e2 := (hj1.x2.kept hkW fun h => h).cell (i := 0) rfl
      have e3 := (hj3.kept hkW fun h => h).cell (i := 0) rfl
      have hkw := hj1.k.trans hkW fun _ _ h => h.elim
      have HWr := writes_any P b g rb rg n us a ks c d Wf prf HQ.out.2.1 (HQ.out.2.2.1.kept2 hkw fun h0 x hx h => by have := HQ.out.2.2.2.2.2.2 h0 x hx; rcases h with h | h <;> omega) HQ.out.2.2.2.1 HQ.out.2.2.2.2.2.2 (by have := HQ.out.2.2.2.2.1; have := hj1.le; omega)
      rw [← HQ.out.2.2.2.2.2.1] at HWr
      have HWr : Hid (Calls _ _ _ _ _) := HWr
      have H3 : Hid (Keeps (fun _ => False) W Wf ∧ Blk Wf M [.int .i64 (xp : Nat), .int .i64 (xf : Nat), .int .i64 (xr : Nat)] 51 ∧ (g < M ∧ rg < M)) := ⟨hkW, hBf, hMg⟩
      clear hj1 hj2 hj3 hj4 hj5 hj6 hj7 hkW prf hkw hBf hKf hMg HWk d0' d1' dP dL0
      gi_wp2_with fail
      refine ⟨trivial, ?_⟩
      refine (CallsIn.inRound l (callsIn_wide.2 HWr.out)).mono ?_
      rintro e W5 ⟨rfl, ⟨ys, pr5⟩, hK5⟩
      obtain ⟨hj1, hj2, hj3, hj4, hj5, hj6, hj7⟩ := HJ.out
      obtain ⟨h31, h32, h33⟩ := H3.out
      have q1 := HT.out.1.gl
      have q2 := HT.out.1.rgl
      have q3 := HLb.out
      have hkT : Keeps (fun k => k = g ∨ k = rg) W W5 := (h31.mono fun _ _ h => h.elim).trans hK5 fun _ _ h => h
      have bL := hj5.kept hkT (by omega)
      have bM := h32.kept hK5 (by omega)
      have bA := hj4.kept hkT (by omega)
      have bD := hj3.kept hkT (by omega)
      have l0 := bL.cell (i := 0) rfl
      have l1 := bL.cell (i := 1) rfl
      have l2 := bL.cell (i := 2) rfl
      have m0 := bM.cell (i := 0) rfl
      have m1 := bM.cell (i := 1) rfl
      have m2 := bM.cell (i := 2) rfl
      have a0 := bA.cell (i := 0) rfl
      have az := bA.frozen 0
      have dd := bD.cell (i := 0) rfl
      have dz := bD.frozen 0
      have hd1 : (d : Int) ≤ 100000 := by have := HQ.out.2.2.2.2.1; have := hj1.le; omega
      have HFIN : Hid (LivePost W7.heap.size W (ThI w H P b g rb rg n root B1 B2 a L c d0 (xp + 1)) (fun _ _ => False) .normal { tmps := #[], defers := [] } ((W5.setCell ⟨H + 6, 0, none⟩ (.int .i64 ((xp : Int) + 1))).setCell ⟨H + 3, 0, none⟩ (.int .i64 ((d : Int) + 1)))) := by
        have z7 := HI.out.2
        have z8 := hj1.le
        have kA : Keeps (· = H + 6) W5 (W5.setCell ⟨H + 6, 0, none⟩ (.int .i64 ((xp : Int) + 1))) := (Keeps.refl (· = H + 6) W5).setCell _ _ fun _ => rfl
        have kD : Keeps (· = H + 3) (W5.setCell ⟨H + 6, 0, none⟩ (.int .i64 ((xp : Int) + 1))) ((W5.setCell ⟨H + 6, 0, none⟩ (.int .i64 ((xp : Int) + 1))).setCell ⟨H + 3, 0, none⟩ (.int .i64 ((d : Int) + 1))) := (Keeps.refl (· = H + 3) _).setCell _ _ fun _ => rfl
        have kk := (hkT.mono (T := fun k => k = g ∨ k = rg ∨ k = H + 6 ∨ k = H + 3) fun _ _ h => by omega).trans ((kA.mono (T := fun k => k = H + 6 ∨ k = H + 3) fun _ _ h => .inl h).trans kD fun _ _ h => .inr h) fun _ _ h => by omega
        have k5 := (kA.mono (T := fun k => k = H + 6 ∨ k = H + 3) fun _ _ h => .inl h).trans kD fun _ _ h => .inr h
        have q4 := HT.out.1.pl
        have q5 := HT.out.1.bl
        have q6 := HT.out.1.rbl
        have q7 := HT.out.1.b1
        have q8 := HT.out.1.b2
        have q9 := HT.out.1.n1
        have q10 := HT.out.1.n2
        have r1 := (bA.setCell 0 (.int .i64 ((xp : Int) + 1))).kept kD (by omega)
        have r2 := (bD.kept kA (by omega)).setCell 0 (.int .i64 ((d : Int) + 1))
        refine ⟨⟨kk.block _ (by omega) (by omega), kk.block _ (by omega) (by omega)⟩, ⟨ys, xp + 1, d + 1, pr5.kept k5 (by omega) (by omega) (by omega) (by omega) (by omega), r2, r1, Nat.le_refl _, by omega, fun j h1 h2 => by omega⟩, by omega, hj1.x0.kept kk (by omega), hj1.x1.kept kk (by omega), hj1.x2.kept kk (by omega), hj1.x4.kept kk (by omega), hj1.x5.kept kk (by omega),
          cell_kept hj1.b1 kk (by omega), cell_kept hj1.b2 kk (by omega), hj1.k.trans kk fun k hk h => by have := HT.out.2; omega⟩
      clear hj1 hj2 hj3 hj4 hj5 hj6 hj7 h31 h32 h33 q1 q2 q3 hkT bL bM bA bD pr5 hK5 HWr e0 e2 e3
      gi_wp2
      exact HFIN.out
    · go_simp
      have ka : Keeps (fun _ => False) W2 (W2.alloc (.cells #[.int .i64 0, .int .i64 0, .int .i64 0] 51)).drew := ((Keeps.refl _ W2).alloc _).drew
      have ba : Blk (W2.alloc (.cells #[.int .i64 0, .int .i64 0, .int .i64 0] 51)).drew W2.heap.size lf0.vs 51 := (Blk.new W2 _ 51).drew
      have pr2 := (HJ.out.2.1.grown H2.out).grown ka
      have HWk2 := rwalk_any rb rg n us root xp _ pr2.r HQ.out.1.1 HQ.out.1.2
      rw [HX.out.1, ← HX.out.2] at HWk2
      have HWk2 : Hid (Calls _ _ _ _ _) := HWk2
      refine hK.out _ _ ⟨cell_kept d0' ka fun h => h, cell_kept dP ka fun h => h, cell_kept d1' ka fun h => h, cell_kept dL0 ka fun h => h⟩ (fun hHeld => ?_)
      simp only [Act.put, List.setIfInBounds_toArray, List.set_cons_zero, List.set_cons_succ]
      refine wpAnyH_ready (rs := [7]) (by kernel_rfl) (by simp) ?_
      refine AllReadyH.cons rfl (fun K hK => ?_) AllReadyH.nil
      go_simp
      refine HWk2.out.mono ?_
      rintro e W3 ⟨rfl, hK3⟩
      have hk := ka.trans hK3 fun _ _ h => h
      have b3 := ba.kept hK3 fun h => h
      have s0 := cell_kept d0' hk fun h => h
      have s1 := cell_kept dP hk fun h => h
      have s2 := cell_kept d1' hk fun h => h
      have s3 := cell_kept dL0 hk fun h => h
      refine hK.out _ _ ⟨s0, s1, s2, s3⟩ (fun hHeld => ?_)
      simp only [Act.put, List.setIfInBounds_toArray, List.set_cons_zero, List.set_cons_succ]
      refine wpAnyH_take (i := 8) (v := .tuple #[.agg #[.int .i64 (xp : Nat), .int .i64 (xf : Nat), .int .i64 (xr : Nat)], .int .i64 0]) rfl (by kernel_rfl) (by kernel_rfl) (by kernel_rfl) (fun _ _ _ h => h) (Or.inl ⟨by kernel_rfl, by (intro w hSw; (try dsimp only at hSw); go_simp)⟩) hHeld ?_
      simp only [Act.put, List.setIfInBounds_toArray, List.set_cons_zero, List.set_cons_succ]
      refine wpAnyH_take (i := 9) (v := .agg #[.int .i64 (xp : Nat), .int .i64 (xf : Nat), .int .i64 (xr : Nat)]) rfl (by kernel_rfl) (by kernel_rfl) (by kernel_rfl) (fun _ _ _ h => h) (Or.inl ⟨by kernel_rfl, by (intro w hSw; (try dsimp only at hSw); go_simp)⟩) hHeld ?_
      simp only [Act.put, List.setIfInBounds_toArray, List.set_cons_zero, List.set_cons_succ]
      refine wpAnyH_take (i := 10) (v := .int .i64 0) rfl (by kernel_rfl) (by kernel_rfl) (by kernel_rfl) (fun _ _ _ h => h) (Or.inl ⟨by kernel_rfl, by (intro w hSw; (try dsimp only at hSw); go_simp)⟩) hHeld ?_
      simp only [Act.put, List.setIfInBounds_toArray, List.set_cons_zero, List.set_cons_succ]
      have m0 := b3.cell (i := 0) rfl
      have m1 := b3.cell (i := 1) rfl
      have m2 := b3.cell (i := 2) rfl
      have f0 := b3.frozen 0
      have f1 := b3.frozen 1
      have f2 := b3.frozen 2
      have u1 : H ≠ W2.heap.size := by have := HI.out.2; have := HJ.out.2.2.2.2.2.2; have := H2.out.size; omega
      have u2 : P ≠ W2.heap.size := by have := HT.out.1.pl; have := HI.out.2; have := HJ.out.2.2.2.2.2.2; have := H2.out.size; omega
      have u3 : H + 1 ≠ W2.heap.size := by have := HI.out.2; have := HJ.out.2.2.2.2.2.2; have := H2.out.size; omega
      have u4 : Lb ≠ W2.heap.size := by have := HJ.out.2.2.2.2.1.lt; have := H2.out.size; omega
      refine wpAnyH_ready (rs := [12]) (by kernel_rfl) (by simp) ?_
      refine AllReadyH.cons rfl (fun K hK => ?_) AllReadyH.nil
      go_simp
      have kf : Keeps (· = W2.heap.size) W3 (setLf W3 W2.heap.size ⟨xp, xf, xr⟩) := (Keeps.refl (· = W2.heap.size) W3).setLf _ _ fun _ => rfl
      refine hK.out _ _ ⟨cell_kept s0 kf u1, cell_kept s1 kf u2, cell_kept s2 kf u3, cell_kept s3 kf u4⟩ (fun hHeld => ?_)
      simp only [Act.put, List.setIfInBounds_toArray, List.set_cons_zero, List.set_cons_succ]
      refine wpAnyH_take (i := 13) (v := .int .i64 0) rfl (by kernel_rfl) (by kernel_rfl) (by kernel_rfl) (fun _ _ _ h => h) (Or.inl ⟨by kernel_rfl, by (intro w hSw; (try dsimp only at hSw); go_simp)⟩) hHeld ?_
      simp only [Act.put, List.setIfInBounds_toArray, List.set_cons_zero, List.set_cons_succ]
      refine wpAnyH_done (by kernel_rfl) ?_ _
      have hBf : Blk (((W3.setCell ⟨W2.heap.size, 0, none⟩ (.int .i64 (xp : Nat))).setCell ⟨W2.heap.size, 1, none⟩ (.int .i64 (xf : Nat))).setCell ⟨W2.heap.size, 2, none⟩ (.int .i64 (xr : Nat))) W2.heap.size [.int .i64 (xp : Nat), .int .i64 (xf : Nat), .int .i64 (xr : Nat)] 51 := b3.setLf ⟨xp, xf, xr⟩
      have hKf : Keeps (fun _ => False) W2 (((W3.setCell ⟨W2.heap.size, 0, none⟩ (.int .i64 (xp : Nat))).setCell ⟨W2.heap.size, 1, none⟩ (.int .i64 (xf : Nat))).setCell ⟨W2.heap.size, 2, none⟩ (.int .i64 (xr : Nat))) := hk.setLf W2.heap.size ⟨xp, xf, xr⟩ fun e => absurd e (Nat.lt_irrefl _)
      have hMg : g < W2.heap.size ∧ rg < W2.heap.size := by have := HT.out.1.gl; have := HT.out.1.rgl; have := HI.out.2; have := HJ.out.2.2.2.2.2.2; have := H2.out.size; omega
      clear hHeld hK kf s0 s1 s2 s3 hk m0 m1 m2 f0 f1 f2 u1 u2 u3 u4 b3 ba ka hK3 pr2 HWk2
      revert hBf hKf hMg
      generalize ((W3.setCell ⟨W2.heap.size, 0, none⟩ (.int .i64 (xp : Nat))).setCell ⟨W2.heap.size, 1, none⟩ (.int .i64 (xf : Nat))).setCell ⟨W2.heap.size, 2, none⟩ (.int .i64 (xr : Nat)) = Wf
      generalize W2.heap.size = M
      intro hBf hKf hMg
      obtain ⟨hj1, hj2, hj3, hj4, hj5, hj6, hj7⟩ := HJ.out
      have hkW := H2.out.trans hKf fun _ _ h => h
      have prf := hj2.grown hkW
      have e0 := (hj1.x0.kept hkW fun h => h).cell (i := 0) rfl
      have e2 := (hj1.x2.kept hkW fun h => h).cell (i := 0) rfl
      have e3 := (hj3.kept hkW fun h => h).cell (i := 0) rfl
      have hkw := hj1.k.trans hkW fun _ _ h => h.elim
      have HWr := writes_any P b g rb rg n us a ks c d Wf prf HQ.out.2.1 (HQ.out.2.2.1.kept2 hkw fun h0 x hx h => by have := HQ.out.2.2.2.2.2.2 h0 x hx; rcases h with h | h <;> omega) HQ.out.2.2.2.1 HQ.out.2.2.2.2.2.2 (by have := HQ.out.2.2.2.2.1; have := hj1.le; omega)
      rw [← HQ.out.2.2.2.2.2.1] at HWr
      have HWr : Hid (Calls _ _ _ _ _) := HWr
      have H3 : Hid (Keeps (fun _ => False) W Wf ∧ Blk Wf M [.int .i64 (xp : Nat), .int .i64 (xf : Nat), .int .i64 (xr : Nat)] 51 ∧ (g < M ∧ rg < M)) := ⟨hkW, hBf, hMg⟩
      clear hj1 hj2 hj3 hj4 hj5 hj6 hj7 hkW prf hkw hBf hKf hMg HWk d0' d1' dP dL0
      gi_wp2_with fail
      refine ⟨trivial, ?_⟩
      refine (CallsIn.inRound l (callsIn_wide.2 HWr.out)).mono ?_
      rintro e W5 ⟨rfl, ⟨ys, pr5⟩, hK5⟩
      obtain ⟨hj1, hj2, hj3, hj4, hj5, hj6, hj7⟩ := HJ.out
      obtain ⟨h31, h32, h33⟩ := H3.out
      have q1 := HT.out.1.gl
      have q2 := HT.out.1.rgl
      have q3 := HLb.out
      have hkT : Keeps (fun k => k = g ∨ k = rg) W W5 := (h31.mono fun _ _ h => h.elim).trans hK5 fun _ _ h => h
      have bL := hj5.kept hkT (by omega)
      have bM := h32.kept hK5 (by omega)
      have bA := hj4.kept hkT (by omega)
      have bD := hj3.kept hkT (by omega)
      have l0 := bL.cell (i := 0) rfl
      have l1 := bL.cell (i := 1) rfl
      have l2 := bL.cell (i := 2) rfl
      have m0 := bM.cell (i := 0) rfl
      have m1 := bM.cell (i := 1) rfl
      have m2 := bM.cell (i := 2) rfl
      have a0 := bA.cell (i := 0) rfl
      have az := bA.frozen 0
      have dd := bD.cell (i := 0) rfl
      have dz := bD.frozen 0
      have hd1 : (d : Int) ≤ 100000 := by have := HQ.out.2.2.2.2.1; have := hj1.le; omega
      have HFIN : Hid (LivePost W7.heap.size W (ThI w H P b g rb rg n root B1 B2 a L c d0 (xp + 1)) (fun _ _ => False) .normal { tmps := #[], defers := [] } ((W5.setCell ⟨H + 6, 0, none⟩ (.int .i64 ((xp : Int) + 1))).setCell ⟨H + 3, 0, none⟩ (.int .i64 ((d : Int) + 1)))) := by
        have z7 := HI.out.2
        have z8 := hj1.le
        have kA : Keeps (· = H + 6) W5 (W5.setCell ⟨H + 6, 0, none⟩ (.int .i64 ((xp : Int) + 1))) := (Keeps.refl (· = H + 6) W5).setCell _ _ fun _ => rfl
        have kD : Keeps (· = H + 3) (W5.setCell ⟨H + 6, 0, none⟩ (.int .i64 ((xp : Int) + 1))) ((W5.setCell ⟨H + 6, 0, none⟩ (.int .i64 ((xp : Int) + 1))).setCell ⟨H + 3, 0, none⟩ (.int .i64 ((d : Int) + 1))) := (Keeps.refl (· = H + 3) _).setCell _ _ fun _ => rfl
        have kk := (hkT.mono (T := fun k => k = g ∨ k = rg ∨ k = H + 6 ∨ k = H + 3) fun _ _ h => by omega).trans ((kA.mono (T := fun k => k = H + 6 ∨ k = H + 3) fun _ _ h => .inl h).trans kD fun _ _ h => .inr h) fun _ _ h => by omega
        have k5 := (kA.mono (T := fun k => k = H + 6 ∨ k = H + 3) fun _ _ h => .inl h).trans kD fun _ _ h => .inr h
        have q4 := HT.out.1.pl
        have q5 := HT.out.1.bl
        have q6 := HT.out.1.rbl
        have q7 := HT.out.1.b1
        have q8 := HT.out.1.b2
        have q9 := HT.out.1.n1
        have q10 := HT.out.1.n2
        have r1 := (bA.setCell 0 (.int .i64 ((xp : Int) + 1))).kept kD (by omega)
        have r2 := (bD.kept kA (by omega)).setCell 0 (.int .i64 ((d : Int) + 1))
        refine ⟨⟨kk.block _ (by omega) (by omega), kk.block _ (by omega) (by omega)⟩, ⟨ys, xp + 1, d + 1, pr5.kept k5 (by omega) (by omega) (by omega) (by omega) (by omega), r2, r1, Nat.le_refl _, by omega, fun j h1 h2 => by omega⟩, by omega, hj1.x0.kept kk (by omega), hj1.x1.kept kk (by omega), hj1.x2.kept kk (by omega), hj1.x4.kept kk (by omega), hj1.x5.kept kk (by omega),
          cell_kept hj1.b1 kk (by omega), cell_kept hj1.b2 kk (by omega), hj1.k.trans kk fun k hk h => by have := HT.out.2; omega⟩
      clear hj1 hj2 hj3 hj4 hj5 hj6 hj7 h31 h32 h33 q1 q2 q3 hkT bL bM bA bD pr5 hK5 HWr e0 e2 e3
      gi_wp2
      exact HFIN.out
  case done =>
    rintro s W rfl hi hD
    obtain ⟨us, at', d, p1, p2, p3, p4, p5, p6⟩ := hi.ex
    have c0 := hi.x0.cell (i := 0) rfl
    have c1 := hi.x1.cell (i := 0) rfl
    have c3 := p2.cell (i := 0) rfl
    have c6 := p3.cell (i := 0) rfl
    have HN : Hid (Calls _ _ _ _ _) := none_any P b g rb rg n us root at' 256 W.drew (p1.grown ((Keeps.refl _ W).drew)) HQ.out.1 (Nat.le_refl _) p4 p6
    have HJ : Hid (ThI w H P b g rb rg n root B1 B2 a L c d0 256 W ∧ Pr W P b g rb rg n us ∧ d ≤ d0 + 256 ∧ W.heap[W7.heap.size]? = some (.deferred (some []))) := ⟨hi, p1, p5, hD⟩
    have hS : W.cell? ⟨H, 0, none⟩ = some (.pointer (some ⟨P, 0, none⟩)) ∧ W.cell? ⟨H + 1, 0, none⟩ = some (.int .i64 root) ∧ W.cell? ⟨H + 3, 0, none⟩ = some (.int .i64 d) ∧ W.cell? ⟨H + 6, 0, none⟩ = some (.int .i64 at') := ⟨c0, c1, c3, c6⟩
    clear hi p1 p2 p3 p4 p5 p6 hD kp
    gi_wp2
    go_wp2
    go_region_held3 (fun w' => w'.cell? ⟨H, 0, none⟩ = some (.pointer (some ⟨P, 0, none⟩)) ∧ w'.cell? ⟨H + 1, 0, none⟩ = some (.int .i64 root) ∧ w'.cell? ⟨H + 3, 0, none⟩ = some (.int .i64 d) ∧ w'.cell? ⟨H + 6, 0, none⟩ = some (.int .i64 at')) (first | exact hS | exact hS8 | exact hS9 | exact hS10)
      (first | (go_at_call 43; refine HN.out.mono ?_; rintro e w8 ⟨rfl, hK8⟩; have hk8 : Keeps (fun _ => False) W w8 := (((Keeps.refl _ W).drew).trans hK8 fun _ _ h => h); have hS8 : w8.cell? ⟨H, 0, none⟩ = some (.pointer (some ⟨P, 0, none⟩)) ∧ w8.cell? ⟨H + 1, 0, none⟩ = some (.int .i64 root) ∧ w8.cell? ⟨H + 3, 0, none⟩ = some (.int .i64 d) ∧ w8.cell? ⟨H + 6, 0, none⟩ = some (.int .i64 at') := ⟨cell_kept c0 hk8 fun h => h, cell_kept c1 hk8 fun h => h, cell_kept c3 hk8 fun h => h, cell_kept c6 hk8 fun h => h⟩; have v4 := HJ.out.1.x4.kept hk8 fun h => h; have v5 := HJ.out.1.x5.kept hk8 fun h => h; have y4 := v4.cell (i := 0) rfl; have y5 := v5.cell (i := 0) rfl; have z4 := v4.frozen 0; have z5 := v5.frozen 0; have kA : Keeps (· = H + 4) w8 (w8.setCell ⟨H + 4, 0, none⟩ (.int .i64 d)) := (Keeps.refl (· = H + 4) w8).setCell _ _ fun _ => rfl; have kB : Keeps (· = H + 5) (w8.setCell ⟨H + 4, 0, none⟩ (.int .i64 d)) ((w8.setCell ⟨H + 4, 0, none⟩ (.int .i64 d)).setCell ⟨H + 5, 0, none⟩ (.bool true)) := (Keeps.refl (· = H + 5) _).setCell _ _ fun _ => rfl; have hS9 : (w8.setCell ⟨H + 4, 0, none⟩ (.int .i64 d)).cell? ⟨H, 0, none⟩ = some (.pointer (some ⟨P, 0, none⟩)) ∧ (w8.setCell ⟨H + 4, 0, none⟩ (.int .i64 d)).cell? ⟨H + 1, 0, none⟩ = some (.int .i64 root) ∧ (w8.setCell ⟨H + 4, 0, none⟩ (.int .i64 d)).cell? ⟨H + 3, 0, none⟩ = some (.int .i64 d) ∧ (w8.setCell ⟨H + 4, 0, none⟩ (.int .i64 d)).cell? ⟨H + 6, 0, none⟩ = some (.int .i64 at') := ⟨cell_kept hS8.1 kA (by omega), cell_kept hS8.2.1 kA (by omega), cell_kept hS8.2.2.1 kA (by omega), cell_kept hS8.2.2.2 kA (by omega)⟩; have hS10 : ((w8.setCell ⟨H + 4, 0, none⟩ (.int .i64 d)).setCell ⟨H + 5, 0, none⟩ (.bool true)).cell? ⟨H, 0, none⟩ = some (.pointer (some ⟨P, 0, none⟩)) ∧ ((w8.setCell ⟨H + 4, 0, none⟩ (.int .i64 d)).setCell ⟨H + 5, 0, none⟩ (.bool true)).cell? ⟨H + 1, 0, none⟩ = some (.int .i64 root) ∧ ((w8.setCell ⟨H + 4, 0, none⟩ (.int .i64 d)).setCell ⟨H + 5, 0, none⟩ (.bool true)).cell? ⟨H + 3, 0, none⟩ = some (.int .i64 d) ∧ ((w8.setCell ⟨H + 4, 0, none⟩ (.int .i64 d)).setCell ⟨H + 5, 0, none⟩ (.bool true)).cell? ⟨H + 6, 0, none⟩ = some (.int .i64 at') := ⟨cell_kept hS9.1 kB (by omega), cell_kept hS9.2.1 kB (by omega), cell_kept hS9.2.2.1 kB (by omega), cell_kept hS9.2.2.2 kB (by omega)⟩; have H8 : Hid (Keeps (fun _ => False) W w8) := hk8; clear hk8 hK8))
    clear hS hS8 hS9 hS10 c0 c1 c3 c6 HN y4 y5 z4 z5
    go_wp2
    obtain ⟨hj1, hj2, hj3, hj4⟩ := HJ.out
    have q4 := HT.out.1.pl
    have q5 := HT.out.1.bl
    have q6 := HT.out.1.rbl
    have q1 := HT.out.1.gl
    have q2 := HT.out.1.rgl
    have z7 := HI.out.2
    have kk := (H8.out.mono (T := fun k => k = H + 4 ∨ k = H + 5) fun _ _ h => h.elim).trans ((kA.mono (T := fun k => k = H + 4 ∨ k = H + 5) fun _ _ h => .inl h).trans kB fun _ _ h => .inr h) fun _ _ h => h
    have r4 := (v4.setCell 0 (.int .i64 (d : Int))).kept kB (by omega)
    have r5 := (v5.kept kA (by omega)).setCell 0 (.bool true)
    have hdd : ((w8.setCell ⟨H + 4, 0, none⟩ (.int .i64 d)).setCell ⟨H + 5, 0, none⟩ (.bool true)).heap[W7.heap.size]? = some (.deferred (some [])) := (kk.block _ (Array.getElem?_eq_some_iff.1 hj4).1 (by omega)).trans hj4
    have prF := hj2.kept kk (by omega) (by omega) (by omega) (by omega) (by omega)
    have hkF := hj1.k.trans kk fun k hk h => by have := HT.out.2; omega
    revert r4 r5 hdd prF hkF
    simp only [Nat.add_assoc, Nat.reduceAdd]
    generalize (w8.setCell ⟨H + 4, 0, none⟩ (.int .i64 d)).setCell ⟨H + 5, 0, none⟩ (.bool true) = WF
    intro r4 r5 hdd prF hkF
    have hKg : Keeps (· = W7.heap.size) WF (WF.putObj W7.heap.size (.deferred none)) := ⟨rfl, rfl, rfl, by simp, fun k _ hn => World.putObj_heap_other hn⟩
    have u1 := (r4.kept hKg (by omega)).cell (i := 0) rfl
    have u2 := (r5.kept hKg (by omega)).cell (i := 0) rfl
    refine ⟨by simp, .inl ⟨_, _, rfl, run_takeDeferred hdd, ?_⟩⟩
    refine ⟨_, results_cell2 (p := 10) (u := 11) (t1 := 3) (t2 := 4) rfl _ _ ⟨H + 4, 0, none⟩ ⟨H + 5, 0, none⟩ (.int .i64 (d : Int)) (.bool true) rfl (by simp [go_sem, u1]) rfl (by simp [go_sem, u2]), d, us, hj3, rfl, prF.kept hKg (by omega) (by omega) (by omega) (by omega) (by omega), ?_⟩
    exact hkF.trans hKg fun k hk e => by have := HT.out.2; omega

end Go.Proofs.Ytpccdhoaicabcaa
