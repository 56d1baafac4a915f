import Derived.Test.YtffhkapegmnklaaM
namespace Go.Proofs.Ytffhkapegmnklaa
open Go.RowKit Go.Shelf
attribute [local go_sem] Oper.semAt_some
set_option linter.unusedVariables false

section
variable {w : World} {s t u rm : Nat}
abbrev Ret (e : Ending) : Prop := ∃ v, e = .returned v

theorem tri_putS (W : World) (ks kt ku : List (Int × Value)) (k n : Int) (h : Tri w W s t u rm ks kt ku) (hk : I64 k) :
    Calls Try.prog 20 #[ptr s, .int .i64 k, .int .i64 n] W fun e W' => Ret e ∧ Tri w W' s t u rm (putL rm k (.int .i64 n) ks) kt ku :=
  h.stepS fun F hF => (put_any s rm ks F k n W hF hk).mono fun e W' h => ⟨⟨_, h.1⟩, h.2⟩
theorem tri_putU (W : World) (ks kt ku : List (Int × Value)) (k n : Int) (h : Tri w W s t u rm ks kt ku) (hk : I64 k) :
    Calls Try.prog 20 #[ptr u, .int .i64 k, .int .i64 n] W fun e W' => Ret e ∧ Tri w W' s t u rm ks kt (putL rm k (.int .i64 n) ku) :=
  (tri_putS W ku ks kt k n h.rot hk).mono fun e W' h => ⟨h.1, h.2.rot.rot⟩
theorem tri_putT (W : World) (ks kt ku : List (Int × Value)) (k n : Int) (h : Tri w W s t u rm ks kt ku) (hk : I64 k) :
    Calls Try.prog 20 #[ptr t, .int .i64 k, .int .i64 n] W fun e W' => Ret e ∧ Tri w W' s t u rm ks (putL rm k (.int .i64 n) kt) ku :=
  (tri_putS W kt ks ku k n h.swap hk).mono fun e W' h => ⟨h.1, h.2.swap⟩
theorem tri_dropT (W : World) (ks kt ku : List (Int × Value)) (k : Int) (h : Tri w W s t u rm ks kt ku) (hk : I64 k) :
    Calls Try.prog 25 #[ptr t, .int .i64 k] W fun e W' => Ret e ∧ Tri w W' s t u rm ks (del k kt) ku :=
  (h.swap.stepS fun F hF => (drop_any t rm kt F k W hF hk).mono fun e W' h => ⟨⟨_, h.1⟩, h.2⟩).mono fun e W' h => ⟨h.1, h.2.swap⟩
theorem tri_clearT (W : World) (ks kt ku : List (Int × Value)) (h : Tri w W s t u rm ks kt ku) :
    Calls Try.prog 27 #[ptr t] W fun e W' => Ret e ∧ Tri w W' s t u rm ks [] ku :=
  (h.swap.stepS fun F hF => (clear_all t rm kt F W hF).mono fun e W' h => ⟨⟨_, h.1⟩, h.2⟩).mono fun e W' h => ⟨h.1, h.2.swap⟩
theorem tri_peekS (W : World) (ks kt ku : List (Int × Value)) (k : Int) (h : Tri w W s t u rm ks kt ku) (hk : I64 k) :
    Calls Try.prog 24 #[ptr s, .int .i64 k] W fun e W' => Ret e ∧ W' = W := by
  obtain ⟨Fs, Ft, Fu, h1, _⟩ := h.ex
  exact (peek_any s rm ks Fs k W h1 hk).mono fun e W' h => ⟨⟨_, h.1⟩, h.2⟩
theorem tri_lenS (W : World) (ks kt ku : List (Int × Value)) (h : Tri w W s t u rm ks kt ku) :
    Calls Try.prog 22 #[ptr s] W fun e W' => e = .returned (.int .i64 ks.length) ∧ W' = W := by
  obtain ⟨Fs, Ft, Fu, h1, _⟩ := h.ex
  exact len_any s rm ks Fs W h1
theorem tri_roomS (W : World) (ks kt ku : List (Int × Value)) (h : Tri w W s t u rm ks kt ku) :
    Calls Try.prog 26 #[ptr s] W fun e W' => Ret e ∧ W' = W := by
  obtain ⟨Fs, Ft, Fu, h1, _⟩ := h.ex
  exact (room_any s rm ks Fs W h1).mono fun e W' h => ⟨⟨_, h.1⟩, h.2⟩
end

/-- Three new shelves. -/
theorem tri_new {w w0 w1 w2 w3 : World} {rm : Nat} {F1 F2 F3 : Nat → Prop} {s t u : Nat} (hw : w0 = w.alloc (.cells #[.bool false] 4))
    (h1 : Sf w1 s rm [] F1 ∧ (∀ b, F1 b → w0.heap.size ≤ b) ∧ Keeps (fun _ => False) w0 w1) (h2 : Sf w2 t rm [] F2 ∧ (∀ b, F2 b → w1.heap.size ≤ b) ∧ Keeps (fun _ => False) w1 w2)
    (h3 : Sf w3 u rm [] F3 ∧ (∀ b, F3 b → w2.heap.size ≤ b) ∧ Keeps (fun _ => False) w2 w3) : Tri w w3 s t u rm [] [] [] := by
  have hz : w0.heap.size = w.heap.size + 1 := by rw [hw]; simp
  have k02 : Keeps (fun _ => False) w0 w2 := h1.2.2.trans h2.2.2 fun _ _ h => h
  have k13 : Keeps (fun _ => False) w1 w3 := h2.2.2.trans h3.2.2 fun _ _ h => h
  have k03 : Keeps (fun _ => False) w0 w3 := h1.2.2.trans k13 fun _ _ h => h
  have hR : Blk w0 w.heap.size [.bool false] 4 := by rw [hw]; exact Blk.new w _ 4
  have s1 := h1.2.2.size
  have s2 := h2.2.2.size
  refine ⟨⟨F1, F2, F3, h1.1.kept k13 fun _ _ h => h, h2.1.kept h3.2.2 fun _ _ h => h, h3.1, fun b x y => ?_, fun b x y => ?_, fun b x y => ?_, fun b x => ?_, fun b x => ?_, fun b x => ?_⟩, hR.kept k03 fun h => h, ?_⟩
  · have := h1.1.lt b x; have := h2.2.1 b y; omega
  · have := h1.1.lt b x; have := h3.2.1 b y; omega
  · have := h2.1.lt b x; have := h3.2.1 b y; omega
  · have := h1.2.1 b x; omega
  · have := h2.2.1 b x; omega
  · have := h3.2.1 b x; omega
  · have : Keeps (fun _ => False) w w0 := by rw [hw]; exact (Keeps.refl _ w).alloc _
    exact this.trans k03 fun _ _ h => h

set_option maxRecDepth 20000 in
set_option maxHeartbeats 8000000 in
theorem apart_main (rm : Nat) (a1 a2 : Option Addr) (us vs : List Int) (c1 c2 : Nat) (w : World) (lo : 1 ≤ rm) (hi : rm ≤ 4096) (hu : SegI w a1 us) (hv : SegI w a2 vs) (bu : ∀ x ∈ us, I64 x) (bv : ∀ x ∈ vs, I64 x)
    (l1 : (us.length : Int) ≤ 2147483647) (l2 : (vs.length : Int) ≤ 2147483647) :
    Calls Try.prog 6 #[.int .i64 rm, .slice a1 us.length c1, .slice a2 vs.length c2] w fun r w' => r = .returned (.bool true) ∧ Keeps (fun _ => False) w w' := by
  have HU : Hid (SegI w a1 us ∧ ∀ x ∈ us, I64 x) := ⟨hu, bu⟩
  have HV : Hid (SegI w a2 vs ∧ ∀ x ∈ vs, I64 x) := ⟨hv, bv⟩
  obtain ⟨n1, hn1⟩ : ∃ n, n = us.length := ⟨_, rfl⟩
  obtain ⟨n2, hn2⟩ : ∃ n, n = vs.length := ⟨_, rfl⟩
  rw [← hn1] at l1 ⊢
  rw [← hn2] at l2 ⊢
  have HN1 : Hid (n1 = us.length) := hn1
  have HN2 : Hid (n2 = vs.length) := hn2
  have H1 : Hid (∀ w, Calls Try.prog 16 #[.int .i64 rm] w _) := fun w => new_any rm w lo hi
  clear hu hv bu bv hn1 hn2 lo hi
  refine (callsIn_wide (n := 8)).1 ?_
  refine callsIn_of_wp_marks Try.func6 rfl trivial ?_ rfl
  refine wpIn_wide.2 ?_
  simp only [Try.ntmps6, List.size_toArray, List.length_cons, List.length_nil, Nat.reduceAdd, Nat.reduceSub, Array.replicate_succ, Array.replicate_zero, List.push_toArray, List.append_toArray, List.nil_append, List.cons_append]
  go_wp2_with fail
  obtain ⟨w0, hw0⟩ : ∃ w0, w0 = w.alloc (.cells #[.bool false] 4) := ⟨_, rfl⟩
  rw [← hw0]
  refine (H1.out _).mono ?_
  rintro r w1 ⟨rfl, ⟨F1, hS1, hF1⟩, hK1⟩
  have HW0 : Hid (w0 = w.alloc (.cells #[.bool false] 4)) := hw0
  have G1 : Hid (Sf w1 (w0.heap.size + 1) rm [] F1 ∧ (∀ b, F1 b → w0.heap.size ≤ b) ∧ Keeps (fun _ => False) w0 w1) := ⟨hS1, hF1, hK1⟩
  clear hS1 hF1 hK1 hw0
  revert G1
  generalize w0.heap.size + 1 = s
  intro G1
  go_wp2_with fail
  refine (H1.out _).mono ?_
  rintro r w2 ⟨rfl, ⟨F2, hS2, hF2⟩, hK2⟩
  have G2 : Hid (Sf w2 (w1.heap.size + 1) rm [] F2 ∧ (∀ b, F2 b → w1.heap.size ≤ b) ∧ Keeps (fun _ => False) w1 w2) := ⟨hS2, hF2, hK2⟩
  clear hS2 hF2 hK2
  revert G2
  generalize w1.heap.size + 1 = t
  intro G2
  go_wp2_with fail
  refine (H1.out _).mono ?_
  rintro r w3 ⟨rfl, ⟨F3, hS3, hF3⟩, hK3⟩
  have G3 : Hid (Sf w3 (w2.heap.size + 1) rm [] F3 ∧ (∀ b, F3 b → w2.heap.size ≤ b) ∧ Keeps (fun _ => False) w2 w3) := ⟨hS3, hF3, hK3⟩
  clear hS3 hF3 hK3
  revert G3
  generalize w2.heap.size + 1 = u
  intro G3
  have HT : Hid (Tri w w3 s t u rm [] [] []) := tri_new HW0.out G1.out G2.out G3.out
  clear G1 G2 G3 H1 HW0
  go_upto_block 0 with fail
  go_cut [13] from 76 to 123 (fun i wc => ∃ ks kt, Tri w wc s t u rm ks kt ks ∧ Things ks)
  case rest =>
    obtain ⟨ks, kt, hT, hth⟩ := hcut
    have H1 : Hid (Calls _ _ _ _ _) := tri_clearT wc ks kt ks hT
    have HTh : Hid (Things ks) := hth
    clear hT hth HT HU HV
    go_wp2_with fail
    refine H1.out.mono ?_
    rintro r w4 ⟨⟨r1, rfl⟩, hT4⟩
    have HT4 : Hid (Tri w w4 s t u rm ks [] ks) := hT4
    have H2 : Hid (Calls _ _ _ _ _) := tri_lenS w4 _ _ _ hT4
    have H3 : Hid (Calls _ _ _ _ _) := tri_lenS w4 _ _ _ hT4.rot
    have H4 : Hid (Calls _ _ _ _ _) := tri_lenS w4 _ _ _ hT4.swap
    simp only [List.length_nil] at H4
    have hL : ks.length ≤ 4096 := by
      obtain ⟨Fs, Ft, Fu, h1, _⟩ := hT4.ex
      exact ksl h1
    obtain ⟨L, hLL⟩ : ∃ L, L = ks.length := ⟨_, rfl⟩
    rw [← hLL] at H2 H3 hL
    have HL : Hid (L = ks.length) := hLL
    have hLi : (L : Int) ≤ 4096 := by omega
    clear H1 hT4 hLL hL
    go_wp2_with fail
    refine H2.out.mono ?_
    rintro r w5 ⟨rfl, rfl⟩
    go_wp2_with fail
    refine H3.out.mono ?_
    rintro r w5 ⟨rfl, rfl⟩
    go_wp2_with fail
    refine H4.out.mono ?_
    rintro r w5 ⟨rfl, rfl⟩
    clear H2 H3 H4
    go_wp2_with fail
    refine (all_any (some ⟨u, 0, none⟩) w5).mono ?_
    rintro r w6 ⟨rfl, hw6⟩
    have hB1 : Blk w6 w5.heap.size [ptr u] 35 := by rw [hw6]; exact Blk.new w5 _ 35
    have hT6 : Tri w w6 s t u rm ks [] ks := HT4.out.kept (by rw [hw6]; exact (Keeps.refl (fun _ => False) w5).alloc _) fun _ _ h => h
    have HT6 : Hid (Tri w w6 s t u rm ks [] ks ∧ Blk w6 w5.heap.size [ptr u] 35) := ⟨hT6, hB1⟩
    clear hw6 hB1 hT6 HT4
    revert HT6
    generalize w5.heap.size = B1
    intro HT6
    go_wp2_with fail
    refine (all_any (some ⟨s, 0, none⟩) w6).mono ?_
    rintro r w7 ⟨rfl, hw7⟩
    have hK7 : Keeps (fun _ => False) w6 w7 := by rw [hw7]; exact (Keeps.refl (fun _ => False) w6).alloc _
    have hB2 : Blk w7 w6.heap.size [ptr s] 35 := by rw [hw7]; exact Blk.new w6 _ 35
    have HT7 : Hid (Tri w w7 s t u rm ks [] ks ∧ Blk w7 B1 [ptr u] 35 ∧ Blk w7 w6.heap.size [ptr s] 35) := ⟨HT6.out.1.kept hK7 fun _ _ h => h, HT6.out.2.kept hK7 fun h => h, hB2⟩
    clear hw7 hB2 hK7 HT6
    revert HT7
    generalize w6.heap.size = B2
    intro HT7
    have hf1 := func_nil44 (.func 40) #[] #[.pointer (some ⟨B1, 0, none⟩)] w7
    have hf2 := func_nil44 (.func 40) #[] #[.pointer (some ⟨B2, 0, none⟩)] w7
    go_wp2
    obtain ⟨W0, hW0⟩ : ∃ W0, W0 = w7.alloc (.cells #[.slice none 0 0] 47) := ⟨_, rfl⟩
    have hK8 : Keeps (fun _ => False) w7 W0 := by rw [hW0]; exact (Keeps.refl (fun _ => False) w7).alloc _
    have hBt : Blk W0 w7.heap.size [.slice none 0 0] 47 := by rw [hW0]; exact Blk.new w7 _ 47
    have hz0 : W0.heap.size = w7.heap.size + 1 := by rw [hW0]; simp
    have HS : Hid ((Tri w w7 s t u rm ks [] ks ∧ Blk w7 B1 [ptr u] 35 ∧ Blk w7 B2 [ptr s] 35) ∧ Keeps (fun _ => False) w7 W0 ∧ Blk W0 w7.heap.size [.slice none 0 0] 47 ∧ W0.heap.size = w7.heap.size + 1) :=
      ⟨HT7.out, hK8, hBt, hz0⟩
    rw [← hW0]
    clear hK8 hBt hz0 hW0 HT7 hf1 hf2
    obtain ⟨Wt, hWt⟩ : ∃ Wt, Wt = w7.heap.size := ⟨_, rfl⟩
    rw [← hWt] at HS ⊢
    have HWt : Hid (Wt = w7.heap.size) := hWt
    clear hWt
    have Hold : Hid (∀ W, Keeps (· = Wt) W0 W → Keeps (fun _ => False) w7 W) := fun W hK => HS.out.2.1.trans hK fun b hb he => by have := HWt.out; omega
    refine (wpIn_wide (n := 8)).1 ?_
    refine range_list rfl (by omega) (gf := 40) (lb := #[.pointer (some ⟨B1, 0, none⟩)]) rfl trivial (enters_of Try.func40 (by kernel_rfl) rfl) (all_lists 7 B1 u rm ks HTh.out)
      (fun W hK => ?good) (fun _ => rfl) (fun g i W => Coll W0 Wt g i ks W) (fun _ _ => False) (fun g i W W' hK h => h.kept (by have := HS.out.2.2.2; omega) hK fun b hb => hb) (fun _ _ _ _ h => h)
      (fun g W hK hg1 hg2 => ⟨hg2, hg1, hK.mono fun _ _ h => h.elim, .slice none 0 0, HS.out.2.2.1.kept hK fun h => h, World.ownsRow_nil _ _ _ _, fun k hk => by simp [Value.ownBlock] at hk⟩) ?body ?done ?stop
    case good =>
      have hK' := Hold.out W (hK.mono fun _ _ h => h.elim)
      obtain ⟨Fs, Ft, Fu, _, _, h3, _⟩ := (HS.out.1.1.kept hK' fun _ _ h => h).ex
      exact ⟨(HS.out.1.2.1.kept hK' fun h => h).cell rfl, Fu, h3⟩
    case stop =>
      rintro c W h _
      exact h.elim
    case body =>
      intro l g i x W hx hC hgB
      obtain ⟨n, hn⟩ := HTh.out x (List.mem_of_getElem? hx)
      obtain ⟨xk, xv⟩ := x
      simp only at hn
      subst hn
      unfold encA
      gi_wp2
      refine ⟨trivial, ?_⟩
      intro W2 hlt hC2
      obtain ⟨v, hBv, hrow, hfr⟩ := hC2.row
      have hiL : i < ks.length := (List.getElem?_eq_some_iff.1 hx).1
      obtain ⟨v', W', happ, hown', hG⟩ := append_pair xk n v i _ hrow (by have := HL.out; omega)
      obtain ⟨gv, capv, rfl, _, _⟩ := owns_some hown' (by omega)
      have hz0 := HS.out.2.2.2
      have hKn : ∀ b, b ≤ g → ¬ (some b = v.ownBlock) := fun b hb he => by have := hfr b he.symm; omega
      have hlo := hC2.lo
      have hBw : Blk W' Wt [v] 47 := hBv.kept hG.keeps (hKn Wt (by omega))
      have c0 := hBv.cell (i := 0) rfl
      have d0 := hBw.cell (i := 0) rfl
      have f0 := hBw.frozen 0
      have HAP : Hid (∀ ty, _) := happ
      have HF : Hid (KeptAt W0.heap.size g W2 (W'.setCell ⟨Wt, 0, none⟩ (.slice (some ⟨gv, 0, none⟩) (i + 1) capv)) ∧ Coll W0 Wt g (i + 1) ks (W'.setCell ⟨Wt, 0, none⟩ (.slice (some ⟨gv, 0, none⟩) (i + 1) capv))) := by
        have hgw := hC2.hi
        have hkk : ∀ b, b ≤ g → b ≠ Wt → (W'.setCell ⟨Wt, 0, none⟩ (.slice (some ⟨gv, 0, none⟩) (i + 1) capv)).heap[b]? = W2.heap[b]? := fun b hb hne =>
          (Below.heap_setCell W' ⟨Wt, 0, none⟩ _ b hne).trans (hG.keeps.block b (by omega) (hKn b hb))
        refine ⟨⟨hkk _ (by omega) (by omega), hkk _ (by omega) (by omega), hkk _ (by omega) (by omega)⟩, ?_, hlo, ?_, _, hBw.setCell 0 _, ?_, ?_⟩
        · have := hG.keeps.size; simp; omega
        · refine (hC2.k.trans (T := fun b => some b = v.ownBlock) (S := (· = Wt)) hG.keeps fun b hb he => ?_).setCell _ _ fun _ => rfl
          exact absurd he (hKn b (by omega))
        · rw [take_snoc ks i _ hx, flat_append]
          refine owns_kept (S := (· = Wt)) hown' ((Keeps.refl _ W').setCell _ _ fun _ => rfl) fun k hk he => ?_
          rcases hG.fresh with h | ⟨k', h, h2⟩
          · rw [h] at hk; have := hfr k hk; omega
          · rw [h] at hk; cases hk; omega
        · intro k hk
          rcases hG.fresh with h | ⟨k', h, h2⟩
          · rw [h] at hk; exact hfr k hk
          · rw [h] at hk; cases hk; omega
      clear happ hown' hG hBv hBw hrow hfr hC hC2 hKn hlo hz0 hx hiL hlt hgB
      gi_wp2_with (gi_at_builtin; go_must (refine wpListIn_append_run rfl (.tmp 149) (.tmp 153) 47 47 rfl v (.slice (some ⟨W2.heap.size, 0, none⟩) 1 1) (.slice (some ⟨gv, 0, none⟩) (i + 1) capv) W' rfl rfl HAP.out ?_; refine Hid.out ?_))
      unfold Hid
      gi_wp2
      exact HF.out
    case done =>
      intro g W hC hD
      obtain ⟨v, hBv, hrow, hfr⟩ := hC.row
      rw [List.take_length] at hrow
      have hKw := Hold.out W hC.k
      have HW : Hid (Tri w W s t u rm ks [] ks ∧ Blk W B2 [ptr s] 35 ∧ Blk W Wt [v] 47 ∧ W.ownsRow 0 49 2 v L (flat ks) ∧ W.heap[W0.heap.size]? = some (.deferred (some [])) ∧ w.heap.size < W0.heap.size ∧ Wt < W.heap.size ∧ W0.heap.size < W.heap.size) := by
        refine ⟨HS.out.1.1.kept hKw fun _ _ h => h, HS.out.1.2.2.kept hKw fun h => h, hBv, by rw [HL.out]; exact hrow, hD, ?_, hBv.lt, (Array.getElem?_eq_some_iff.1 hD).1⟩
        have := HS.out.1.1.r.lt; have := HS.out.2.2.2; have := HWt.out; omega
      obtain ⟨D1, hD1⟩ : ∃ D1, D1 = W0.heap.size := ⟨_, rfl⟩
      rw [← hD1] at HW ⊢
      clear hBv hrow hfr hKw hC hD hD1 HS Hold HWt
      gi_wp2
      go_wp2
      obtain ⟨X0, hX0⟩ : ∃ X0, X0 = W.alloc (.cells #[.int .i64 0] 3) := ⟨_, rfl⟩
      have hKx : Keeps (fun _ => False) W X0 := by rw [hX0]; exact (Keeps.refl (fun _ => False) W).alloc _
      have hBi : Blk X0 W.heap.size [.int .i64 0] 3 := by rw [hX0]; exact Blk.new W _ 3
      have hzx : X0.heap.size = W.heap.size + 1 := by rw [hX0]; simp
      rw [← hX0]
      have HX : Hid (Keeps (fun _ => False) W X0 ∧ Blk X0 W.heap.size [.int .i64 0] 3 ∧ X0.heap.size = W.heap.size + 1) := ⟨hKx, hBi, hzx⟩
      clear hKx hBi hzx hX0
      obtain ⟨Ib, hIb⟩ : ∃ Ib, Ib = W.heap.size := ⟨_, rfl⟩
      rw [← hIb] at HX ⊢
      have HIb : Hid (Ib = W.heap.size) := hIb
      clear hIb
      have Hold : Hid (∀ X, Keeps (· = Ib) X0 X → Keeps (fun _ => False) W X) := fun X hK => HX.out.1.trans hK fun b hb he => by have := HIb.out; omega
      refine (wpIn_wide (n := 8)).1 ?_
      refine range_list rfl (by omega) (gf := 40) (lb := #[.pointer (some ⟨B2, 0, none⟩)]) rfl trivial (enters_of Try.func40 (by kernel_rfl) rfl) (all_lists 7 B2 s rm ks HTh.out)
        (fun X hK => ?good2) (fun _ => rfl) (fun g i X => g < X.heap.size ∧ Keeps (· = Ib) X0 X ∧ Blk X Ib [.int .i64 i] 3) (fun _ _ => False)
        (fun g i X X' hK h => ⟨Nat.lt_of_lt_of_le h.1 hK.size, h.2.1.trans hK fun b hb he => by omega, h.2.2.kept hK fun he => by have := HX.out.2.2; omega⟩) (fun _ _ _ _ h => h)
        (fun g X hK hg1 hg2 => ⟨hg2, hK.mono fun _ _ h => h.elim, HX.out.2.1.kept hK fun h => h⟩) ?body2 ?done2 ?stop2
      case good2 =>
        have hK' := Hold.out X (hK.mono fun _ _ h => h.elim)
        obtain ⟨Fs, Ft, Fu, h3, _⟩ := (HW.out.1.kept hK' fun _ _ h => h).ex
        exact ⟨(HW.out.2.1.kept hK' fun h => h).cell rfl, Fs, h3⟩
      case stop2 =>
        rintro c W h _
        exact h.elim
      case body2 =>
        intro l g i x X hx hC hgB
        obtain ⟨n, hn⟩ := HTh.out x (List.mem_of_getElem? hx)
        obtain ⟨xk, xv⟩ := x
        simp only at hn
        subst hn
        have hiL : i < L := by have := (List.getElem?_eq_some_iff.1 hx).1; have := HL.out; omega
        obtain ⟨gv, capv, hve, hcap1, hcap2⟩ := owns_some HW.out.2.2.2.1 (by omega)
        unfold encA
        gi_wp2
        refine ⟨trivial, ?_⟩
        intro X2 hlt hC2
        have hKW := Hold.out X2 hC2.2.1
        have cI := hC2.2.2.cell (i := 0) rfl
        have fI := hC2.2.2.frozen 0
        have cW := (HW.out.2.2.1.kept hKW fun h => h).cell (i := 0) rfl
        have hrow := owns_kept HW.out.2.2.2.1 hKW fun _ _ h => h
        rw [hve] at cW hrow
        have hcs := hrow.cells (g := gv) rfl
        obtain ⟨q1, q2⟩ := flat_get ks i _ hx
        have r1 := hcs _ _ q1
        have r2 := hcs _ _ q2
        rw [addr_add, Nat.zero_add, Nat.mul_comm] at r1 r2
        simp only at r1 r2
        have HF : Hid (KeptAt X0.heap.size g X2 (X2.setCell ⟨Ib, 0, none⟩ (.int .i64 ((i : Int) + 1))) ∧ g < (X2.setCell ⟨Ib, 0, none⟩ (.int .i64 ((i : Int) + 1))).heap.size ∧ Keeps (· = Ib) X0 (X2.setCell ⟨Ib, 0, none⟩ (.int .i64 ((i : Int) + 1))) ∧ Blk (X2.setCell ⟨Ib, 0, none⟩ (.int .i64 ((i : Int) + 1))) Ib [.int .i64 ((i + 1 : Nat) : Int)] 3) := by
          have hz := HX.out.2.2
          refine ⟨⟨Below.heap_setCell X2 ⟨Ib, 0, none⟩ _ _ (show _ ≠ Ib by omega), Below.heap_setCell X2 ⟨Ib, 0, none⟩ _ _ (show _ ≠ Ib by omega), Below.heap_setCell X2 ⟨Ib, 0, none⟩ _ _ (show _ ≠ Ib by omega)⟩, by simp; exact hC2.1, hC2.2.1.setCell _ _ fun _ => rfl, ?_⟩
          have := hC2.2.2.setCell 0 (.int .i64 ((i : Int) + 1))
          simpa using this
        have hi1 : (i : Int) < (L : Int) := by omega
        have hcapi : (L : Int) ≤ capv := by omega
        have hcapj : (capv : Int) ≤ 9223372036854775807 := by omega
        clear hC hC2 hKW hrow hcs q1 q2 hx hgB hlt hve hcap1 hcap2
        gi_wp2
        exact HF.out
      case done2 =>
        intro g X hC hD
        have hKW := Hold.out X hC.2.1
        have cI := hC.2.2.cell (i := 0) rfl
        have hBw := HW.out.2.2.1.kept hKW fun h => h
        have HE : Hid (∀ W, Calls Try.prog 7 #[] W _) := fun W => awake_any W
        have HZ : Hid (Tri w X s t u rm ks [] ks ∧ X.heap[D1]? = some (.deferred (some [])) ∧ X.heap[X0.heap.size]? = some (.deferred (some [])) ∧ w.heap.size < D1 ∧ D1 < X0.heap.size) :=
          ⟨HW.out.1.kept hKW fun _ _ h => h, obj_kept HW.out.2.2.2.2.1 hKW fun h => h, hD, HW.out.2.2.2.2.2.1, by have := HW.out.2.2.2.2.2.2.2; have := HX.out.2.2; have := HIb.out; omega⟩
        obtain ⟨cv, hcv⟩ : ∃ a c, v = .slice a L c := by
          rcases HW.out.2.2.2.1.2 with ⟨h, h2⟩ | ⟨g', cap, cur, h, _⟩
          · exact ⟨none, 0, by rw [h, h2]⟩
          · exact ⟨_, _, h⟩
        obtain ⟨cc, rfl⟩ := hcv
        have cW := hBw.cell (i := 0) rfl
        rw [← HL.out] at cI
        clear hC hD hKW hBw HW HX Hold HIb
        gi_wp2
        go_wp2_with fail
        refine (HE.out _).mono ?_
        rintro r X5 ⟨rfl, hK5⟩
        have hT5 := HZ.out.1.kept hK5 fun _ _ h => h
        have d1 := obj_kept HZ.out.2.1 hK5 fun h => h
        have d2 := obj_kept HZ.out.2.2.1 hK5 fun h => h
        have c0 := hT5.r.cell (i := 0) rfl
        have f0 := hT5.r.frozen 0
        have HZ5 : Hid (Tri w X5 s t u rm ks [] ks ∧ X5.heap[D1]? = some (.deferred (some [])) ∧ X5.heap[X0.heap.size]? = some (.deferred (some [])) ∧ w.heap.size < D1 ∧ D1 < X0.heap.size) := ⟨hT5, d1, d2, HZ.out.2.2.2⟩
        clear hT5 d1 d2 hK5 HZ HE cI cW
        go_wp2
        obtain ⟨hT5, d1, d2, z1, z2⟩ := HZ5.out
        have hKs : Keeps (· = w.heap.size) X5 (X5.setCell ⟨w.heap.size, 0, none⟩ (.bool true)) := (Keeps.refl _ X5).setCell _ _ fun _ => rfl
        have d2' := obj_kept d2 hKs (by omega)
        have d1' := obj_kept d1 hKs (by omega)
        have hr := hT5.r.setCell 0 (.bool true)
        have hKw := hT5.k
        revert hKs d1' d2' hr
        generalize X5.setCell ⟨w.heap.size, 0, none⟩ (.bool true) = WF
        intro hKs d2' d1' hr
        have hKf : Keeps (· = X0.heap.size) WF (WF.putObj X0.heap.size (.deferred none)) := ⟨rfl, rfl, rfl, by simp, fun k _ hn => World.putObj_heap_other hn⟩
        have d1'' := obj_kept d1' hKf (by omega)
        have hKg : Keeps (· = D1) (WF.putObj X0.heap.size (.deferred none)) ((WF.putObj X0.heap.size (.deferred none)).putObj D1 (.deferred none)) := ⟨rfl, rfl, rfl, by simp, fun k _ hn => World.putObj_heap_other hn⟩
        have hrf := ((hr.kept hKf (by omega)).kept hKg (by omega)).cell (i := 0) rfl
        refine ⟨by simp, .inl ⟨_, _, rfl, run_takeDeferred d2', ⟨by simp, .inl ⟨_, _, rfl, run_takeDeferred d1'', ?_⟩⟩⟩⟩
        refine ⟨.bool true, results_cell_val rfl _ _ w.heap.size (.bool true) rfl (by simp [go_sem, hrf]), rfl, ?_⟩
        exact ((hKw.trans hKs fun k hk e => by omega).trans hKf fun k hk e => by omega).trans hKg fun k hk e => by omega
  go_wp2
  go_loopw [13] (fun i wr => ∃ (j : Nat) (ks kt : List (Int × Value)), j ≤ n1 ∧ i = .int .i64 j ∧ Tri w wr s t u rm ks kt ks ∧ Things ks) (fun i _ => n1 - (intOf i).toNat)
  case atStart => exact ⟨0, [], [], by omega, rfl, HT.out, fun p hp => by simp at hp⟩
  case round =>
    obtain ⟨j, ks, kt, hj, rfl, hT, hth⟩ := hrel
    by_cases hlt : j < n1
    · have hju : j < us.length := by have := HN1.out; omega
      rcases HU.out.1 with h0 | ⟨b, o, rfl, hcell⟩
      · exact absurd hju (by rw [h0]; simp)
      · have HB : Hid (∀ W, Keeps (fun _ => False) w W → W.cell? ⟨b, o + j, none⟩ = some (.int .i64 (us[j]'hju))) := fun W hK => by
          have hb1 : b < w.heap.size := World.block_lt_of_cell? w ⟨b, o + j, none⟩ (hcell j hju)
          rw [World.cell?_of_block (w := w) (hK.block b hb1 fun h => h)]
          exact hcell j hju
        have hkx := HU.out.2 (us[j]'hju) (List.getElem_mem hju)
        obtain ⟨x, hx⟩ : ∃ x, x = us[j]'hju := ⟨_, rfl⟩
        rw [← hx] at HB hkx
        have HX : Hid (I64 x) := hkx
        have cu := HB.out wr hT.k
        have H1 : Hid (Calls _ _ _ _ _) := tri_putS wr ks kt ks x j hT hkx
        have HTh : Hid (Things ks) := hth
        clear hju hcell hx hkx hT hth HT HU
        go_wp2_with fail
        refine H1.out.mono ?_
        rintro r w4 ⟨⟨r1, rfl⟩, hT4⟩
        have cu4 := HB.out w4 hT4.k
        have H2 : Hid (Calls _ _ _ _ _) := tri_putU w4 _ kt ks x j hT4 HX.out
        clear H1 hT4 cu
        go_wp2_with fail
        refine H2.out.mono ?_
        rintro r w5 ⟨⟨r2, rfl⟩, hT5⟩
        have HT5 : Hid (Tri w w5 s t u rm (putL rm x (.int .i64 j) ks) kt (putL rm x (.int .i64 j) ks)) := hT5
        have HTh5 : Hid (Things (putL rm x (.int .i64 j) ks)) := things_put HTh.out
        clear H2 hT5 cu4 HTh
        by_cases hl2 : j < n2
        · have hjv : j < vs.length := by have := HN2.out; omega
          rcases HV.out.1 with h0 | ⟨b2, o2, rfl, hcell2⟩
          · exact absurd hjv (by rw [h0]; simp)
          · have HB2 : Hid (∀ W, Keeps (fun _ => False) w W → W.cell? ⟨b2, o2 + j, none⟩ = some (.int .i64 (vs[j]'hjv))) := fun W hK => by
              have hb1 : b2 < w.heap.size := World.block_lt_of_cell? w ⟨b2, o2 + j, none⟩ (hcell2 j hjv)
              rw [World.cell?_of_block (w := w) (hK.block b2 hb1 fun h => h)]
              exact hcell2 j hjv
            have hky := HV.out.2 (vs[j]'hjv) (List.getElem_mem hjv)
            obtain ⟨y, hy⟩ : ∃ y, y = vs[j]'hjv := ⟨_, rfl⟩
            rw [← hy] at HB2 hky
            have HY : Hid (I64 y) := hky
            have cv := HB2.out w5 HT5.out.k
            have H3 : Hid (Calls _ _ _ _ _) := tri_putT w5 _ kt _ y (-j) HT5.out hky
            clear hjv hcell2 hy hky HV
            go_wp2_with fail
            refine H3.out.mono ?_
            rintro r w6 ⟨⟨r3, rfl⟩, hT6⟩
            have cu6 := HB.out w6 hT6.k
            have H4 : Hid (Calls _ _ _ _ _) := tri_dropT w6 _ _ _ x hT6 HX.out
            clear H3 hT6 cv
            go_wp2_with fail
            refine H4.out.mono ?_
            rintro r w7 ⟨⟨r4, rfl⟩, hT7⟩
            have cv7 := HB2.out w7 hT7.k
            have H5 : Hid (Calls _ _ _ _ _) := tri_peekS w7 _ _ _ y hT7 HY.out
            have H6 : Hid (Calls _ _ _ _ _) := tri_lenS w7 _ _ _ hT7
            have H7 : Hid (Calls _ _ _ _ _) := tri_roomS w7 _ _ _ hT7
            have HT7 : Hid (Tri _ _ _ _ _ _ _ _ _) := hT7
            clear H4 hT7 cu6
            go_wp2_with fail
            refine H5.out.mono ?_
            rintro r w8 ⟨⟨r5, rfl⟩, rfl⟩
            clear H5
            go_wp2_with fail
            refine H6.out.mono ?_
            rintro r w9 ⟨rfl, rfl⟩
            clear H6
            go_wp2_with fail
            refine H7.out.mono ?_
            rintro r w10 ⟨⟨r6, rfl⟩, rfl⟩
            clear H7 cv7
            go_wp2
            go_roundw
            case rel => exact ⟨j + 1, _, _, by omega, by go_num, HT7.out, HTh5.out⟩
            case measure => simp [intOf]; omega
        · go_wp2
          go_roundw
          case rel => exact ⟨j + 1, _, _, by omega, by go_num, HT5.out, HTh5.out⟩
          case measure => simp [intOf]; omega
    · obtain rfl : j = n1 := by omega
      have HN : Hid (∃ ks kt, Tri w wr s t u rm ks kt ks ∧ Things ks) := ⟨ks, kt, hT, hth⟩
      clear hT hth
      go_wp2
      go_meet
      exact HN.out

end Go.Proofs.Ytffhkapegmnklaa
