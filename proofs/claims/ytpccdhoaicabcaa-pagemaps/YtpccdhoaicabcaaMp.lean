import Derived.Test.YtpccdhoaicabcaaAk
namespace Go.Proofs.Ytpccdhoaicabcaa
open Go.RowKit Go.Shelf
set_option linter.unusedVariables false
set_option linter.unusedSimpArgs false

theorem func_nil48 (w : World) (x y : Value) : (binOp .eql 48 (.func (.func 38) #[] #[x, y]) .nilFunc).run Try.prog w = .ok (.bool false) w := by kernel_rfl
attribute [local go_sem] Oper.semAt_some func_nil48

theorem results_cell {P : Program} {fn : Func} {p : Tmp} {ty : TypeId} (h : fn.results = #[.cell p ty]) (tmps : Array Value) (w : World) (a : Addr) (v : Value)
    (hp : tmps.getD p undef = .pointer (some a)) (hl : (loadVar ty a).run P w = .ok v w) : (results fn tmps).run P w = .ok v w := by
  have hp' : tmps[p]?.getD undef = .pointer (some a) := by simpa using hp
  simp [results, h, hp', asAddr, hl]

/-- Where the statement stands: its box of regions, its result, its memory. -/
structure MpS (w W : World) (H P b g rb : Nat) (ys : List UInt32) (a : Option Addr) (L c : Nat) : Prop where
  bx : Blk W H [.slice a L c] 29
  rs : Blk W (H + 1) [.bool false] 4
  p : Blk W P [.pointer (some ⟨b, 0, none⟩), .pointer (some ⟨rb, 0, none⟩)] 37
  m : Mn W b g 64 ys
  k : Keeps (fun _ => False) w W
theorem MpS.kept {S : Nat → Prop} {w W W' : World} {H P b g rb : Nat} {ys : List UInt32} {a : Option Addr} {L c : Nat} (h : MpS w W H P b g rb ys a L c) (hK : Keeps S W W') (h1 : ¬ S H) (h2 : ¬ S (H + 1)) (h3 : ¬ S P) (h4 : ¬ S b) (h5 : ¬ S g) (hw : ∀ k, k < w.heap.size → ¬ S k) : MpS w W' H P b g rb ys a L c :=
  ⟨h.bx.kept hK h1, h.rs.kept hK h2, h.p.kept hK h3, h.m.kept hK h4 h5, h.k.trans hK fun k hk e => hw k hk e⟩
theorem MpS.grown {w W W' : World} {H P b g rb : Nat} {ys : List UInt32} {a : Option Addr} {L c : Nat} (h : MpS w W H P b g rb ys a L c) (hK : Keeps (fun _ => False) W W') : MpS w W' H P b g rb ys a L c :=
  h.kept hK (fun e => e) (fun e => e) (fun e => e) (fun e => e) (fun e => e) fun _ _ e => e

theorem xs0_length (n : Nat) (h : 20 ≤ n) : (xs0 n).length = n * 16 := by
  unfold xs0
  obtain ⟨h3, h4⟩ := built_lays (n := n) (xs := List.replicate (n * 16) (0 : UInt32)) (root := 12) (ts := ts0) (rs := rs0) (by simp) (ts0_apart n h) rs0_cnt.symm
  have := h3.rlaid_len 16 (Nat.le_refl _)
  rw [rlaid_full] at this
  exact this

set_option maxRecDepth 40000 in
set_option maxHeartbeats 16000000 in
theorem maps_any (a : Option Addr) (rs : List Rgn) (c : Nat) (a2 : Option Addr) (ts : List Int) (c2 : Nat) (root : Int) (w : World) (hs : SegR w a rs) (hl : rs.length ≤ c ∧ c ≤ maxLen) (hf : ∀ r, r ∈ rs → r.Fine)
    (hs2 : SegI w a2 ts) (hl2 : ts.length ≤ c2 ∧ c2 ≤ maxLen) (hr : I64 root) (hz : rs.length ≤ 4398046511104) (hz2 : ts.length ≤ 17592186044416) (ha : ∀ x, a = some x → x.block < w.heap.size) (ha2 : ∀ x, a2 = some x → x.block < w.heap.size) :
    Calls Try.prog 4 #[.slice a rs.length c, .slice a2 ts.length c2, .int .i64 root] w fun e w' => e = .returned (.bool true) ∧ Keeps (fun _ => False) w w' := by
  obtain ⟨H, hH⟩ : ∃ H, H = w.heap.size := ⟨_, rfl⟩
  obtain ⟨L, hL⟩ : ∃ L, L = rs.length := ⟨_, rfl⟩
  obtain ⟨L2, hL2⟩ : ∃ L, L = ts.length := ⟨_, rfl⟩
  obtain ⟨wa, hwa⟩ : ∃ wa, wa = (w.alloc (.cells #[.slice a L c] 29)).alloc (.cells #[.bool false] 4) := ⟨_, rfl⟩
  have hka : Keeps (fun _ => False) w wa := by rw [hwa]; exact ((Keeps.refl _ w).alloc _).alloc _
  have hba : Blk wa H [.slice a L c] 29 := by rw [hwa, hH]; exact (Blk.new w _ 29).alloc _
  have hbb : Blk wa (H + 1) [.bool false] 4 := by
    have := Blk.new (w.alloc (.cells #[.slice a L c] 29)) #[.bool false] 4
    rw [World.size_alloc, ← hH, ← hwa] at this; exact this
  have hza : wa.heap.size = H + 2 := by rw [hwa, hH]; simp
  have H1 : Hid (Calls _ _ _ _ _) := begun_any 64 wa (by omega) (by omega)
  have HQ : Hid (SegR w a rs ∧ (rs.length ≤ c ∧ c ≤ maxLen) ∧ (∀ r, r ∈ rs → r.Fine) ∧ SegI w a2 ts ∧ (ts.length ≤ c2 ∧ c2 ≤ maxLen) ∧ I64 root ∧ (∀ x, a = some x → x.block < w.heap.size) ∧ (∀ x, a2 = some x → x.block < w.heap.size)) := ⟨hs, hl, hf, hs2, hl2, hr, ha, ha2⟩
  have HA : Hid (wa = (w.alloc (.cells #[.slice a L c] 29)).alloc (.cells #[.bool false] 4) ∧ Keeps (fun _ => False) w wa ∧ Blk wa H [.slice a L c] 29 ∧ Blk wa (H + 1) [.bool false] 4 ∧ wa.heap.size = H + 2 ∧ H = w.heap.size ∧ L = rs.length ∧ L2 = ts.length) := ⟨hwa, hka, hba, hbb, hza, hH, hL, hL2⟩
  have hLc : (L : Int) ≤ 4398046511104 := by omega
  have hLc2 : (L2 : Int) ≤ 17592186044416 := by omega
  rw [← hL, ← hL2]
  clear hs hl hf hs2 hl2 hr hz hz2 ha ha2 hwa hka hba hbb hza hL hL2
  refine (callsIn_wide (n := 8)).1 ?_
  refine callsIn_of_wp_marks Try.func4 rfl trivial ?_ rfl
  refine wpIn_wide.2 ?_
  simp only [Try.ntmps4, List.size_toArray, List.length_cons, List.length_nil, Nat.reduceAdd, Nat.reduceSub, Array.replicate_succ, Array.replicate_zero, List.push_toArray, List.append_toArray, List.nil_append, List.cons_append]
  go_wp2_with fail
  rw [← HA.out.1, ← hH]
  clear hH
  refine H1.out.mono ?_
  rintro e w1 ⟨P, b, g, rb, rg, rfl, hB⟩
  obtain ⟨a1, a2', a3, a4, a5, a6, a7, a8⟩ := HA.out
  have s1 : MpS w w1 H P b g rb (xs0 64) a L c := ⟨a3.kept hB.k fun h => h, a4.kept hB.k fun h => h, hB.pr.p, hB.pr.m, a2'.trans hB.k fun _ _ h => h⟩
  have u1 := hB.p1
  have u2 := hB.b1
  have u3 := hB.g1
  have HS1 : Hid (MpS w w1 H P b g rb (xs0 64) a L c ∧ H + 2 ≤ P ∧ H + 2 ≤ b ∧ H + 2 ≤ g ∧ P ≠ g ∧ b ≠ g) := ⟨s1, by omega, by omega, by omega, hB.pr.n1, hB.pr.m.mm.ne⟩
  have c0 := s1.bx.cell (i := 0) rfl
  have c1 := s1.rs.cell (i := 0) rfl
  have z1 := s1.rs.frozen 0
  have cP := s1.p.cell (i := 0) rfl
  clear hB a1 a2' a3 a4 a5 a6 a7 a8 u1 u2 u3 s1 H1
  by_cases hbig : (2147483647 : Int) < (L : Int) + L2
  · go_wp2
    have hs := HS1.out.1
    have hb := hs.rs.setCell 0 (.bool true)
    have hk := hs.k.setCell ⟨H + 1, 0, none⟩ (.bool true) fun e => by have := HA.out.2.2.2.2.2.1; simp only at e; omega
    have u := hb.cell (i := 0) rfl
    refine ⟨_, results_cell (p := 6) (ty := 4) rfl _ _ ⟨H + 1, 0, none⟩ (.bool true) rfl (by simp [go_sem, u]), rfl, hk⟩
  · have H2 : Hid (Calls _ _ _ _ _) := words_any b g (xs0 64) w1 HS1.out.1.m.mm
    rw [xs0_length 64 (by omega)] at H2
    go_wp2_with fail
    refine H2.out.mono ?_
    rintro e w2 ⟨rfl, hw2, hk2⟩
    obtain ⟨B1, hB1⟩ : ∃ B1, B1 = w1.heap.size := ⟨_, rfl⟩
    rw [← hB1] at hw2 ⊢
    have s2 := HS1.out.1.grown hk2
    have hbs : ts.length + rs.length ≤ 2147483647 := by have := HA.out; omega
    have H3 := lent_any 0 0 0 0 0 a2 ts c2 a rs c w2 HQ.out.2.2.2.2.1 (HQ.out.2.2.2.1.grown s2.k) HQ.out.2.1 (HQ.out.1.grown s2.k) hbs
    rw [← HA.out.2.2.2.2.2.2.1, ← HA.out.2.2.2.2.2.2.2] at H3
    have H3 : Hid (Calls _ _ _ _ _) := H3
    have HS2 : Hid (MpS w w2 H P b g rb (xs0 64) a L c ∧ Blk w2 B1 (wvs (xs0 64)) 27 ∧ B1 < w2.heap.size ∧ H + 2 ≤ B1 ∧ B1 ≠ g ∧ P < B1 ∧ b < B1 ∧ g < B1 ∧ ts.length + rs.length ≤ 2147483647) := by
      have l1 := HS1.out.1.p.lt
      have l2 := HS1.out.1.m.mm.blk.lt
      have l3 := HS1.out.1.m.mm.row.lt
      have l4 := HS1.out.1.rs.lt
      exact ⟨s2, hw2, hw2.lt, by omega, by omega, by omega, by omega, by omega, hbs⟩
    have d0 := s2.bx.cell (i := 0) rfl
    clear hw2 hk2 hB1 s2 hbs H2 c0 c1 z1 cP
    go_wp2_with fail
    refine H3.out.mono ?_
    rintro e w3 ⟨gt, gr, rfl, hLe⟩
    have s3 := HS2.out.1.grown hLe.k
    have HB := build_any b g 64 (xs0 64) root (some ⟨gt, 0, none⟩) ts (ts.length + 9) (some ⟨gr, 0, none⟩) rs (rs.length + 9) w3 s3.m ⟨by omega, by have := HS2.out.2.2.2.2.2.2.2.2; unfold maxLen; omega⟩ (hLe.t.segI) ⟨by omega, by have := HS2.out.2.2.2.2.2.2.2.2; unfold maxLen; omega⟩ (hLe.r.segR) HQ.out.2.2.1
      (fun x hx => by cases hx; have := hLe.gt1; have := HS2.out; simp only; omega) (fun x hx => by cases hx; have := hLe.gr1; have := HS2.out; simp only; omega)
    rw [← HA.out.2.2.2.2.2.2.1, ← HA.out.2.2.2.2.2.2.2] at HB
    have HB : Hid (Calls _ _ _ _ _) := HB
    have HS3 : Hid (MpS w w3 H P b g rb (xs0 64) a L c ∧ Lent w2 w3 gt gr ts rs 9) := ⟨s3, hLe⟩
    have cP := s3.p.cell (i := 0) rfl
    clear hLe s3 H3 d0
    go_wp2_with fail
    refine HB.out.mono ?_
    rintro e w4 ⟨z, rfl, hz, hM4, hK4⟩
    obtain ⟨ys, hys⟩ : ∃ ys, ys = BldX root ts rs (xs0 64) z := ⟨_, rfl⟩
    rw [← hys] at hM4
    have s4 : MpS w w4 H P b g rb ys a L c := by
      have hs := HS3.out.1
      have hh := HS1.out
      exact ⟨hs.bx.kept hK4 (by omega), hs.rs.kept hK4 (by omega), hs.p.kept hK4 hh.2.2.2.2.1, hM4, hs.k.trans hK4 fun k hk e => by have := HA.out.2.2.2.2.2.1; omega⟩
    have HS4 : Hid (MpS w w4 H P b g rb ys a L c ∧ BldP 64 root ts rs z ∧ ys = BldX root ts rs (xs0 64) z ∧ Keeps (· = g) w3 w4) := ⟨s4, hz, hys, hK4⟩
    have H5 := words_any b g ys w4 hM4.mm
    have hyl : ys.length = 1024 := hM4.len
    rw [hyl] at H5
    have H5 : Hid (Calls _ _ _ _ _) := H5
    have HYL : Hid (ys.length = 1024) := hyl
    have cP4 := s4.p.cell (i := 0) rfl
    clear hz hM4 hK4 s4 hys hyl HB cP
    go_wp2_with fail
    refine H5.out.mono ?_
    rintro e w5 ⟨rfl, hw5, hk5⟩
    obtain ⟨B2, hB2⟩ : ∃ B2, B2 = w4.heap.size := ⟨_, rfl⟩
    rw [← hB2] at hw5 ⊢
    have s5 := HS4.out.1.grown hk5
    have hLe := HS3.out.2
    have hh := HS1.out
    have hh2 := HS2.out
    have e1 := hLe.gt1
    have e2 := hLe.gr1
    have e3 := hLe.t.lt
    have e4 := hLe.r.lt
    have e5 := HS4.out.2.2.2.size
    have e6 := HA.out.2.2.2.2.2.1
    have hkg : Keeps (· = g) w3 w5 := HS4.out.2.2.2.trans hk5 fun _ _ h => h.elim
    have H6 := back_any 0 0 0 0 0 a2 ts c2 a rs c gt gr w5 HQ.out.2.2.2.2.1 (HQ.out.2.2.2.1.grown s5.k) HQ.out.2.1 (HQ.out.1.grown s5.k) hh2.2.2.2.2.2.2.2.2 (hLe.t.kept hkg (by omega)) (hLe.r.kept hkg (by omega)) hLe.ne
      (fun x hx => by have := HQ.out.2.2.2.2.2.2.2 x hx; omega) (fun x hx => by have := HQ.out.2.2.2.2.2.2.1 x hx; omega)
    rw [← HA.out.2.2.2.2.2.2.1, ← HA.out.2.2.2.2.2.2.2] at H6
    have H6 : Hid (Calls _ _ _ _ _) := H6
    have c0 := s5.bx.cell (i := 0) rfl
    have b15 : Blk w5 B1 (wvs (xs0 64)) 27 := (hh2.2.1.kept hLe.k fun h => h).kept hkg (by omega)
    have HS5 : Hid (MpS w w5 H P b g rb ys a L c ∧ Blk w5 B1 (wvs (xs0 64)) 27 ∧ Blk w5 B2 (wvs ys) 27 ∧ H + 2 ≤ B1 ∧ H + 2 ≤ B2 ∧ H + 2 ≤ gt ∧ H + 2 ≤ gr ∧ P < gt ∧ P < gr ∧ b < gt ∧ b < gr ∧ g < gt ∧ g < gr ∧ B1 < gt ∧ B1 < gr ∧ gt < B2 ∧ gr < B2) := ⟨s5, b15, hw5, by omega, by omega, by omega, by omega, by omega, by omega, by omega, by omega, by omega, by omega, by omega, by omega, by omega, by omega⟩
    clear hw5 hk5 hB2 s5 hLe hh hh2 e1 e2 e3 e4 e5 e6 hkg H5 cP4 b15
    go_wp2_with fail
    refine H6.out.mono ?_
    rintro e w6 ⟨rfl, hbk⟩
    obtain ⟨s5, f1, f2, f3, f4, f5, f6, f7, f8, f9, f10, f11, f12, f13, f14, f15, f16⟩ := HS5.out
    have hK6 := hbk.k
    have s6 : MpS w w6 H P b g rb ys a L c := s5.kept hK6 (by omega) (by omega) (by omega) (by omega) (by omega) fun k hk h => by have := HA.out.2.2.2.2.2.1; omega
    have HS6 : Hid (MpS w w6 H P b g rb ys a L c ∧ Blk w6 B1 (wvs (xs0 64)) 27 ∧ Blk w6 B2 (wvs ys) 27) := ⟨s6, f1.kept hK6 (by omega), f2.kept hK6 (by omega)⟩
    clear s5 f1 f2 f3 f4 f5 f6 f7 f8 f9 f10 f11 f12 f13 f14 f15 f16 hK6 hbk s6 H6 HS5 c0
    have hzz : z = 0 ∨ z = 2 ∨ z = 91 ∨ z = 94 ∨ z = 95 := by
      rcases HS4.out.2.1 with ⟨_, h⟩ | ⟨_, _, h⟩ | ⟨_, _, _, h⟩ | ⟨_, _, _, _, h⟩ | ⟨_, _, _, _, h⟩ <;> omega
    have HZZ : Hid (z = 0 ∨ z = 2 ∨ z = 91 ∨ z = 94 ∨ z = 95) := hzz
    have hz1 : (z : Int) ≤ 95 := by omega
    have hrr := HQ.out.2.2.2.2.2.1
    clear hzz
    go_wp2
    by_cases hz0 : z = 0
    · subst hz0
      have hbp : (MayB rs ∧ ¬ Outs 64 rs) ∧ ts.length = cnt (findL rs) 16 ∧ Apart 64 root ts := by
        rcases HS4.out.2.1 with ⟨_, h⟩ | ⟨_, _, h⟩ | ⟨_, _, _, h⟩ | ⟨_, _, _, _, h⟩ | ⟨_, h1, h2, h3, _⟩
        · omega
        · omega
        · omega
        · omega
        · exact ⟨h1, h2, h3⟩
      obtain ⟨r, hroot⟩ := Int.eq_ofNat_of_zero_le hbp.2.2.1.1
      subst hroot
      have hlays := built_lays (n := 64) (xs := xs0 64) (root := r) (ts := ts) (rs := rs) (xs0_length 64 (by omega)) hbp.2.2 hbp.2.1
      have HG : Hid ((MayB rs ∧ ¬ Outs 64 rs) ∧ Lays (findL rs) ts r 64 (xs0 64) ∧ Dist ts ∧ ys = builtL (findL rs) ts r (xs0 64)) := ⟨hbp.1, hlays.1, hlays.2, by rw [HS4.out.2.2.1]; rfl⟩
      have hr64 : (r : Int) < 64 := by have := hlays.1.rl; omega
      clear hbp hlays HZZ hz1
      go_loopw [15, 16, 17] (fun i u v wr => ∃ j : Nat, j ≤ 1024 ∧ i = .int .i64 j ∧ Keeps (fun _ => False) w6 wr) (fun i _ _ _ => 1024 - (intOf i).toNat)
      case atStart => exact ⟨0, by omega, rfl, Keeps.refl _ _⟩
      case round =>
        obtain ⟨j, hj, rfl, hK⟩ := hrel
        have HK : Hid (Keeps (fun _ => False) w6 wr) := hK
        by_cases hlt : j < 1024
        · have hjy : j < ys.length := by rw [HYL.out]; exact hlt
          have hjx : j < (xs0 64).length := by rw [xs0_length 64 (by omega)]; exact hlt
          have cx := (HS6.out.2.1.kept hK fun h => h).cell (wvs_get _ j hjx)
          have cy := (HS6.out.2.2.kept hK fun h => h).cell (wvs_get _ j hjy)
          obtain ⟨v0, hv0⟩ : ∃ v : Nat, v = ((xs0 64)[j]'hjx).toNat := ⟨_, rfl⟩
          obtain ⟨v1, hv1⟩ : ∃ v : Nat, v = (ys[j]'hjy).toNat := ⟨_, rfl⟩
          rw [← hv0] at cx
          rw [← hv1] at cy
          have HV : Hid (j / 16 ≠ r → ((j / 16 : Nat) : Int) ∉ ts → v1 = v0) := fun h1 h2 => by
            have h3 := built_else HG.out.2.1 h2 h1
            rw [← HG.out.2.2.2, List.getElem?_eq_getElem hjy, List.getElem?_eq_getElem hjx] at h3
            rw [hv0, hv1, Option.some.inj h3]
          have hlt' : (j : Int) < 1024 := by omega
          have segI := HQ.out.2.2.2.1.grown (HS6.out.1.grown hK).k
          have HSI : Hid (SegI wr a2 ts) := segI
          clear hjy hjx hv0 hv1 hK segI
          have start : ∀ M : Bool, (M = true ↔ j / 16 = r) → Hid (M = true ↔ (j / 16 = r ∨ ((j / 16 : Nat) : Int) ∈ ts.take 0)) := fun M hM => ⟨fun h => .inl (hM.1 h), fun h => by
            rcases h with h | h
            · exact hM.2 h
            · simp at h⟩
          have hq : ((j : Int) / 16 == (r : Int)) = decide (j / 16 = r) := by
            by_cases h : j / 16 = r
            · rw [decide_eq_true h]; simp; omega
            · rw [decide_eq_false h]; simp; omega
          have HS0 := start (decide (j / 16 = r)) (by simp)
          clear start
          obtain ⟨M0, hM0⟩ : ∃ M, M = decide (j / 16 = r) := ⟨_, rfl⟩
          rw [← hM0] at hq HS0
          clear hM0
          go_wp2
          go_loopw [17, 16] (fun k u wr2 => ∃ (kk : Nat) (M : Bool), kk ≤ L2 ∧ k = .int .i64 kk ∧ u = .bool M ∧ Hid (M = true ↔ (j / 16 = r ∨ ((j / 16 : Nat) : Int) ∈ ts.take kk)) ∧ Hid (wr2 = wr)) (fun k _ _ => L2 - (intOf k).toNat)
          case atStart => exact ⟨0, M0, by omega, rfl, rfl, HS0, rfl⟩
          case round =>
            rename_i wr2 _
            obtain ⟨kk, M, hkk, rfl, rfl, hM, hw2⟩ := hrel
            have hw2 := hw2.out.symm
            subst hw2
            by_cases hk2 : kk < L2
            · obtain ⟨y, hy⟩ : ∃ y, ts[kk]? = some y := ⟨_, List.getElem?_eq_getElem (by have := HA.out.2.2.2.2.2.2.2; omega)⟩
              have hk2' : (kk : Int) < L2 := by omega
              have HY : Hid (ts[kk]? = some y) := hy
              obtain ⟨g2, o2, rfl, cyy⟩ := HSI.out.at hy
              have nxt : ∀ M' : Bool, (M' = true ↔ (M = true ∨ ((j / 16 : Nat) : Int) = y)) → Hid (M' = true ↔ (j / 16 = r ∨ ((j / 16 : Nat) : Int) ∈ ts.take (kk + 1))) := fun M' hM' => by
                have hm := hM.out
                show M' = true ↔ _
                rw [hM', hm, List.take_add_one, HY.out, List.mem_append]
                simp [or_assoc]
              clear hy
              cases M
              · by_cases hyq : ((j / 16 : Nat) : Int) = y
                · have hyq' : ((j : Int) / 16 == y) = true := by rw [beq_iff_eq]; omega
                  have HN := nxt true (by simp [hyq])
                  clear nxt hyq
                  go_wp2
                  go_roundw
                  case rel => exact ⟨kk + 1, true, by omega, by go_num, rfl, HN, by first | exact rfl | exact True.intro⟩
                  case measure => simp [intOf]; omega
                · have hyq' : ((j : Int) / 16 == y) = false := by rw [beq_eq_false_iff_ne]; omega
                  have HN := nxt false ⟨fun h => (by cases h), fun h => by rcases h with h | h; exact h; exact absurd h hyq⟩
                  clear nxt hyq
                  go_wp2
                  go_roundw
                  case rel => exact ⟨kk + 1, false, by omega, by go_num, rfl, HN, by first | exact rfl | exact True.intro⟩
                  case measure => simp [intOf]; omega
              · have HN := nxt true (by simp)
                clear nxt
                go_wp2
                go_roundw
                case rel => exact ⟨kk + 1, true, by omega, by go_num, rfl, HN, by first | exact rfl | exact True.intro⟩
                case measure => simp [intOf]; omega
            · obtain rfl : kk = L2 := by omega
              have hM2 : Hid (M = true ↔ (j / 16 = r ∨ ((j / 16 : Nat) : Int) ∈ ts)) := by
                have := hM.out
                rw [List.take_of_length_le (by have := HA.out.2.2.2.2.2.2.2; omega)] at this
                exact this
              clear hM
              cases M
              · have hv : v1 = v0 := HV.out (fun e => by have := hM2.out.2 (.inl e); cases this) (fun e => by have := hM2.out.2 (.inr e); cases this)
                subst hv
                clear hM2 HV
                go_wp2_with fail
                go_quiet (fail)
                go_wp2
                go_roundw
                case rel =>
                  repeat' apply Exists.intro
                  refine ⟨?_, rfl⟩
                  exact ⟨j + 1, by omega, by go_num, HK.out.drewN _⟩
                case measure => simp [intOf]; omega
              · clear hM2 HV
                go_wp2_with fail
                go_quiet (fail)
                go_wp2
                go_roundw
                case rel =>
                  repeat' apply Exists.intro
                  refine ⟨?_, rfl⟩
                  exact ⟨j + 1, by omega, by go_num, HK.out.drewN _⟩
                case measure => simp [intOf]; omega
        · obtain rfl : j = 1024 := by omega
          have s7 := HS6.out.1.grown hK
          have HS7 : Hid (MpS w wr H P b g rb ys a L c) := s7
          have cP := s7.p.cell (i := 0) rfl
          clear hK s7
          obtain ⟨Cb, hCb⟩ : ∃ Cb, Cb = wr.heap.size := ⟨_, rfl⟩
          obtain ⟨wc, hwc⟩ : ∃ wc, wc = wr.alloc (.cells #[.int .i64 0] 3) := ⟨_, rfl⟩
          have HC : Hid (wc = wr.alloc (.cells #[.int .i64 0] 3) ∧ Cb = wr.heap.size ∧ Blk wc Cb [.int .i64 0] 3 ∧ Keeps (fun _ => False) wr wc) := ⟨hwc, hCb, by rw [hwc, hCb]; exact Blk.new wr _ 3, by rw [hwc]; exact (Keeps.refl _ wr).alloc _⟩
          have HLv : Hid (∀ W, Calls _ _ _ W _) := fun W => leaves_any (some ⟨b, 0, none⟩) (r : Int) W
          have cP2 : (wr.alloc (.cells #[.int .i64 0] 3)).cell? ⟨P, 0, none⟩ = some (.pointer (some ⟨b, 0, none⟩)) := cell_kept cP ((Keeps.refl (fun _ => False) wr).alloc _) fun h => h
          clear hwc hCb
          go_wp2_with fail
          rw [← HC.out.1, ← HC.out.2.1]
          refine (HLv.out _).mono ?_
          rintro e w7 ⟨rfl, hb1, hb2, hK7⟩
          obtain ⟨D1, hD1⟩ : ∃ D1, D1 = wc.heap.size := ⟨_, rfl⟩
          rw [← hD1] at hb1 hb2 ⊢
          have s8 := (HS7.out.grown HC.out.2.2.2).grown hK7
          have bc := HC.out.2.2.1.kept hK7 fun h => h
          have HS8 : Hid (MpS w w7 H P b g rb ys a L c ∧ Blk w7 Cb [.int .i64 0] 3 ∧ Blk w7 D1 [.pointer (some ⟨b, 0, none⟩)] 34 ∧ Blk w7 (D1 + 1) [.int .i64 (r : Int)] 3 ∧ H + 2 ≤ Cb ∧ Cb < D1 ∧ P < Cb ∧ b < Cb ∧ g < Cb) := by
            have l1 := HS7.out.p.lt
            have l2 := HS7.out.m.mm.blk.lt
            have l3 := HS7.out.m.mm.row.lt
            have l4 := HS7.out.rs.lt
            have l5 := HC.out.2.1
            have l6 := HC.out.2.2.1.lt
            exact ⟨s8, bc, hb1, hb2, by omega, by omega, by omega, by omega, by omega⟩
          clear hb1 hb2 hK7 hD1 s8 bc HLv cP cP2
          go_wp2_with fail
          have kp : ∀ s W W', Keeps (fun k => k = w7.heap.size ∨ k = w7.heap.size + 1) W W' → (MpS w W H P b g rb ys a L c ∧ Blk W Cb [.int .i64 (cntP (findL rs) s : Nat)] 3 ∧ W.cell? ⟨D1, 0, none⟩ = some (.pointer (some ⟨b, 0, none⟩)) ∧ W.cell? ⟨D1 + 1, 0, none⟩ = some (.int .i64 (r : Int)) ∧ s ≤ 256) →
              (MpS w W' H P b g rb ys a L c ∧ Blk W' Cb [.int .i64 (cntP (findL rs) s : Nat)] 3 ∧ W'.cell? ⟨D1, 0, none⟩ = some (.pointer (some ⟨b, 0, none⟩)) ∧ W'.cell? ⟨D1 + 1, 0, none⟩ = some (.int .i64 (r : Int)) ∧ s ≤ 256) := fun s W W' hK h => by
            obtain ⟨x1, x2, x3, x4, x5, x6, x7, x8, x9⟩ := HS8.out
            have l1 := x4.lt
            have l2 := HA.out.2.2.2.2.2.1
            obtain ⟨h1, h2, h3, h4, h5⟩ := h
            exact ⟨h1.kept hK (by omega) (by omega) (by omega) (by omega) (by omega) (fun k hk e => by omega), h2.kept hK (by omega), cell_kept h3 hK (by omega), cell_kept h4 hK (by omega), h5⟩
          refine (wpIn_wide (n := 8)).1 ?_
          refine range_live4 (σ := Nat) (α := Lf) rfl (by omega) (gf := 38) (lb := #[.pointer (some ⟨D1, 0, none⟩), .pointer (some ⟨D1 + 1, 0, none⟩)]) rfl trivial (enters_of Try.func38 (by kernel_rfl) rfl)
            (leaves_tells 7 D1 (D1 + 1) b g 64 (r : Int)) (fun _ => rfl) (fun s W => MpS w W H P b g rb ys a L c ∧ Blk W Cb [.int .i64 (cntP (findL rs) s : Nat)] 3 ∧ W.cell? ⟨D1, 0, none⟩ = some (.pointer (some ⟨b, 0, none⟩)) ∧ W.cell? ⟨D1 + 1, 0, none⟩ = some (.int .i64 (r : Int)) ∧ s ≤ 256) (fun _ _ => False) kp
            (fun s x W W' hK hi ht => ?tell) (fun _ _ _ _ h => h) (fun s W hz hi => ⟨hi.2.2.1, hi.2.2.2.1, ys, hi.1.m⟩) (fun s s' W hi hs => ?skip) ⟨HS8.out.1, HS8.out.2.1, HS8.out.2.2.1.cell rfl, HS8.out.2.2.2.1.cell rfl, by omega⟩ ?body ?done ?stop
          case stop =>
            rintro c W h _
            exact h.elim
          case tell =>
            obtain ⟨x1, x2, x3, x4, x5, x6, x7, x8, x9⟩ := HS8.out
            have l1 := x4.lt
            have hm := hi.1.m.kept hK (by omega) (by omega)
            refine ⟨ht.1, ht.2.1, fun zs hy => ?_⟩
            rw [← hm.inj hy]; exact ht.2.2 ys hi.1.m
          case skip =>
            obtain ⟨rfl, hlt, hn⟩ := hs
            have hw := (built_walk HG.out.2.1 HG.out.2.2.1 (by omega) (find_in HG.out.1.1 HG.out.1.2) s hlt).1
            rw [← HG.out.2.2.2] at hw
            have hf : (findL rs s).isSome = false := by
              cases hq : (findL rs s).isSome
              · rfl
              · rw [hq] at hw; exact absurd hw (hn ys hi.1.m)
            refine ⟨hi.1, ?_, hi.2.2.1, hi.2.2.2.1, by omega⟩
            rw [show cntP (findL rs) (s + 1) = cntP (findL rs) s by show cntP _ s + _ = _; rw [hf]; rfl]
            exact hi.2.1
          case body =>
            intro l s x W0 hW0 _ _
            unfold encL
            gi_wp2
            refine ⟨(Keeps.refl _ W0).alloc _, ?_⟩
            intro W hkA hlt hi ht
            obtain ⟨xp, xf, xr⟩ := x
            obtain ⟨t1, t2, t3⟩ := ht
            obtain ⟨t4, t5⟩ := t3 ys hi.1.m
            simp only at t1
            subst t1
            obtain ⟨hw1, hw2⟩ := built_walk HG.out.2.1 HG.out.2.2.1 (by omega) (find_in HG.out.1.1 HG.out.1.2) xp t2
            rw [← HG.out.2.2.2] at hw1 hw2
            rw [t4] at hw1
            rw [← t5] at hw2
            have hsome : (findL rs xp).isSome = true := by
              cases hq : (findL rs xp).isSome
              · rw [hq] at hw1; simp at hw1
              · rfl
            have hidx : 0 ≤ idx rs xp := by have := idx_find rs xp; rw [hsome] at this; exact of_decide_eq_true this
            obtain ⟨i, y, hi1, hi2, ⟨o1, o2, o3, o4, o5, o6, o7⟩, hi4, hi5, hi6⟩ := idx_at HG.out.1.1 hidx
            rw [hi6] at hw2
            simp only [Lf.mk.injEq, true_and] at hw2
            have hxf : (xf : Int) = y.frame + (xp : Int) - y.page := by omega
            have hxr : (xr : Int) = y.rights := by omega
            have hq1 : ((xf : Int) != y.frame + (xp : Int) - y.page) = false := by rw [hxf]; simp
            have hq2 : ((xr : Int) != y.rights) = false := by rw [hxr]; simp
            obtain ⟨Lb, hLb⟩ : ∃ Lb, Lb = W0.heap.size := ⟨_, rfl⟩
            have hBl : Blk W Lb [.int .i64 (xp : Nat), .int .i64 (xf : Nat), .int .i64 (xr : Nat)] 51 := by rw [hLb]; exact (Blk.new W0 _ 51).kept hkA (by omega)
            rw [← hLb]
            have HAsk := asked_any a rs c xp W HQ.out.2.1 (HQ.out.1.grown hi.1.k) (may_ok HG.out.1.1) t2
            rw [hi1, ← HA.out.2.2.2.2.2.2.1] at HAsk
            have HAsk : Hid (Calls _ _ _ _ _) := HAsk
            obtain ⟨gy, oy, rfl, y0, y1, y2, y3⟩ := (HQ.out.1.grown hi.1.k).at hi2
            have hiL : (i : Int) < L := by have := (List.getElem?_eq_some_iff.1 hi2).1; have := HA.out.2.2.2.2.2.2.1; omega
            have hLc' : (L : Int) ≤ c := by have := HQ.out.2.1; have := HA.out.2.2.2.2.2.2.1; omega
            have hcc : (c : Int) ≤ 9223372036854775807 := by have := HQ.out.2.1.2; unfold maxLen at this; omega
            have hu1 : IntKind.i64.wrap (y.frame + (xp : Int)) = y.frame + (xp : Int) := by rw [IntKind.wrap_i64]; omega
            have hu2 : IntKind.i64.wrap (y.frame + (xp : Int) - y.page) = y.frame + (xp : Int) - y.page := by rw [IntKind.wrap_i64]; omega
            have c0 := hi.1.bx.cell (i := 0) rfl
            have l0 := hBl.cell (i := 0) rfl
            have l1 := hBl.cell (i := 1) rfl
            have l2 := hBl.cell (i := 2) rfl
            have HJ : Hid (MpS w W H P b g rb ys (some ⟨gy, oy, none⟩) L c ∧ Blk W Cb [.int .i64 (cntP (findL rs) xp : Nat)] 3 ∧ W.cell? ⟨D1, 0, none⟩ = some (.pointer (some ⟨b, 0, none⟩)) ∧ W.cell? ⟨D1 + 1, 0, none⟩ = some (.int .i64 (r : Int)) ∧ w7.heap.size + 1 < W.heap.size ∧ (findL rs xp).isSome = true ∧ xp < 256) := ⟨hi.1, hi.2.1, hi.2.2.1, hi.2.2.2.1, hlt, hsome, t2⟩
            clear hi hkA hlt t2 t3 t4 t5 hw1 hw2 hsome hidx hi1 hi2 o1 o2 o3 o4 o5 o6 o7 hi4 hi5 hi6 hxf hxr hLb hBl hW0 kp
            gi_wp2_with fail
            refine ⟨trivial, ?_⟩
            refine (CallsIn.inRound l (callsIn_wide.2 HAsk.out)).mono ?_
            rintro e W2 ⟨rfl, hK2⟩
            have d0 := cell_kept c0 hK2 fun h => h
            have m0 := cell_kept l0 hK2 fun h => h
            have m1 := cell_kept l1 hK2 fun h => h
            have m2 := cell_kept l2 hK2 fun h => h
            have n0 := cell_kept y0 hK2 fun h => h
            have n2 := cell_kept y2 hK2 fun h => h
            have n3 := cell_kept y3 hK2 fun h => h
            have H2 : Hid (Keeps (fun _ => False) W W2) := hK2
            clear hK2
            have bC := HJ.out.2.1.kept H2.out fun h => h
            have hcl : ((cntP (findL rs) xp : Nat) : Int) ≤ 256 := by have := cntP_le (findL rs) xp; have := HJ.out.2.2.2.2.2.2; omega
            obtain ⟨C, hC⟩ : ∃ C, C = cntP (findL rs) xp := ⟨_, rfl⟩
            rw [← hC] at bC hcl
            have cC : W2.drew.cell? ⟨Cb, 0, none⟩ = some (.int .i64 (C : Nat)) := (bC.drew).cell (i := 0) rfl
            have zC := (bC.drew).frozen 0
            have HFIN : Hid (LivePost w7.heap.size W (fun W => MpS w W H P b g rb ys (some ⟨gy, oy, none⟩) L c ∧ Blk W Cb [.int .i64 (cntP (findL rs) (xp + 1) : Nat)] 3 ∧ W.cell? ⟨D1, 0, none⟩ = some (.pointer (some ⟨b, 0, none⟩)) ∧ W.cell? ⟨D1 + 1, 0, none⟩ = some (.int .i64 (r : Int)) ∧ xp + 1 ≤ 256) (fun _ _ => False) .normal { tmps := #[], defers := [] } (W2.drew.setCell ⟨Cb, 0, none⟩ (.int .i64 ((C : Int) + 1)))) := by
              obtain ⟨x1, x2, x3, x4, x5, x6, x7, x8, x9⟩ := HS8.out
              have l1 := x4.lt
              obtain ⟨j1, j2, j3, j4, j5, j6, j7⟩ := HJ.out
              have kS : Keeps (· = Cb) W2 (W2.drew.setCell ⟨Cb, 0, none⟩ (.int .i64 ((C : Int) + 1))) := ((Keeps.refl (· = Cb) W2).drew).setCell _ _ fun _ => rfl
              have kk : Keeps (· = Cb) W (W2.drew.setCell ⟨Cb, 0, none⟩ (.int .i64 ((C : Int) + 1))) := (H2.out.mono fun _ _ h => h.elim).trans kS fun _ _ h => h
              have l2 := HA.out.2.2.2.2.2.1
              refine ⟨⟨kk.block _ (by omega) (by omega), kk.block _ (by omega) (by omega)⟩, j1.kept kk (by omega) (by omega) (by omega) (by omega) (by omega) (fun k hk e => by omega), ?_, cell_kept j3 kk (by omega), cell_kept j4 kk (by omega), by omega⟩
              rw [show cntP (findL rs) (xp + 1) = C + 1 by show cntP _ xp + _ = _; rw [j6, hC]; rfl]
              have := (bC.drew).setCell 0 (.int .i64 ((C : Int) + 1))
              exact this
            clear hC bC HAsk c0 l0 l1 l2 y0 y1 y2 y3
            gi_wp2_with fail
            refine region_inRound Try.mixed (noDefer_of (by kernel_rfl)) ?nq (fun w' => w'.cell? ⟨H, 0, none⟩ = some (.slice (some ⟨gy, oy, none⟩) L c) ∧ w'.cell? ⟨Lb, 0, none⟩ = some (.int .i64 (xp : Nat)) ∧ w'.cell? ⟨Lb, 1, none⟩ = some (.int .i64 (xf : Nat)) ∧ w'.cell? ⟨Lb, 2, none⟩ = some (.int .i64 (xr : Nat)) ∧ w'.cell? ⟨gy, oy + i * 4, none⟩ = some (.int .i64 y.page) ∧ w'.cell? ⟨gy, oy + i * 4 + 2, none⟩ = some (.int .i64 y.frame) ∧ w'.cell? ⟨gy, oy + i * 4 + 3, none⟩ = some (.int .i64 y.rights)) ⟨d0, m0, m1, m2, n0, n2, n3⟩ (fun hHeld => ?_)
            case nq =>
              rintro ⟨a, w, h⟩
              exact h
            simp only [List.size_toArray, List.length_cons, List.length_nil, Nat.reduceAdd, Array.replicate_succ, Array.replicate_zero, List.push_toArray, List.append_toArray, List.nil_append, List.cons_append]
            refine wpAnyH_take (i := 0) (v := .int .i64 i) rfl (by kernel_rfl) (by kernel_rfl) (by kernel_rfl) (fun _ _ _ h => h) (Or.inl ⟨by kernel_rfl, by (intro w hSw; (try dsimp only at hSw); go_simp)⟩) hHeld ?_
            simp only [Act.put, List.getElem_toArray, List.getElem_cons_succ, List.getElem_cons_zero, List.setIfInBounds_toArray, List.set_cons_zero, List.set_cons_succ]
            refine wpAnyH_take (i := 1) (v := .bool false) rfl (by kernel_rfl) (by kernel_rfl) (by kernel_rfl) (fun _ _ _ h => h) (Or.inl ⟨by kernel_rfl, by (intro w hSw; (try dsimp only at hSw); go_simp)⟩) hHeld ?_
            simp only [Act.put, List.getElem_toArray, List.getElem_cons_succ, List.getElem_cons_zero, List.setIfInBounds_toArray, List.set_cons_zero, List.set_cons_succ]
            refine wpAnyH_take (i := 2) (v := .bool false) rfl (by kernel_rfl) (by kernel_rfl) (by kernel_rfl) (fun _ _ _ h => h) (Or.inl ⟨by kernel_rfl, by (intro w hSw; (try dsimp only at hSw); go_simp)⟩) hHeld ?_
            simp only [Act.put, List.getElem_toArray, List.getElem_cons_succ, List.getElem_cons_zero, List.setIfInBounds_toArray, List.set_cons_zero, List.set_cons_succ]
            refine wpAnyH_take (i := 3) (v := .pointer (some ⟨Lb, 1, none⟩)) rfl (by kernel_rfl) (by kernel_rfl) (by kernel_rfl) (fun _ _ _ h => h) (Or.inl ⟨by kernel_rfl, by (intro w hSw; (try dsimp only at hSw); go_simp)⟩) hHeld ?_
            simp only [Act.put, List.getElem_toArray, List.getElem_cons_succ, List.getElem_cons_zero, List.setIfInBounds_toArray, List.set_cons_zero, List.set_cons_succ]
            refine wpAnyH_take (i := 4) (v := .int .i64 (xf : Nat)) rfl (by kernel_rfl) (by kernel_rfl) (by kernel_rfl) (fun _ _ _ h => h) (Or.inl ⟨by kernel_rfl, by (intro w hSw; (try dsimp only at hSw); go_simp)⟩) hHeld ?_
            simp only [Act.put, List.getElem_toArray, List.getElem_cons_succ, List.getElem_cons_zero, List.setIfInBounds_toArray, List.set_cons_zero, List.set_cons_succ]
            refine wpAnyH_take (i := 5) (v := .slice (some ⟨gy, oy, none⟩) L c) rfl (by kernel_rfl) (by kernel_rfl) (by kernel_rfl) (fun _ _ _ h => h) (Or.inl ⟨by kernel_rfl, by (intro w hSw; (try dsimp only at hSw); go_simp)⟩) hHeld ?_
            simp only [Act.put, List.getElem_toArray, List.getElem_cons_succ, List.getElem_cons_zero, List.setIfInBounds_toArray, List.set_cons_zero, List.set_cons_succ]
            refine wpAnyH_take (i := 6) (v := .int .i64 i) rfl (by kernel_rfl) (by kernel_rfl) (by kernel_rfl) (fun _ _ _ h => h) (Or.inl ⟨by kernel_rfl, by (intro w hSw; (try dsimp only at hSw); go_simp)⟩) hHeld ?_
            simp only [Act.put, List.getElem_toArray, List.getElem_cons_succ, List.getElem_cons_zero, List.setIfInBounds_toArray, List.set_cons_zero, List.set_cons_succ]
            refine wpAnyH_take (i := 7) (v := .pointer (some ⟨gy, oy + i * 4, none⟩)) rfl (by kernel_rfl) (by kernel_rfl) (by kernel_rfl) (fun _ _ _ h => h) (Or.inl ⟨by kernel_rfl, by (intro w hSw; (try dsimp only at hSw); go_simp)⟩) hHeld ?_
            simp only [Act.put, List.getElem_toArray, List.getElem_cons_succ, List.getElem_cons_zero, List.setIfInBounds_toArray, List.set_cons_zero, List.set_cons_succ]
            refine wpAnyH_take (i := 8) (v := .pointer (some ⟨gy, oy + i * 4 + 2, none⟩)) rfl (by kernel_rfl) (by kernel_rfl) (by kernel_rfl) (fun _ _ _ h => h) (Or.inl ⟨by kernel_rfl, by (intro w hSw; (try dsimp only at hSw); go_simp)⟩) hHeld ?_
            simp only [Act.put, List.getElem_toArray, List.getElem_cons_succ, List.getElem_cons_zero, List.setIfInBounds_toArray, List.set_cons_zero, List.set_cons_succ]
            refine wpAnyH_take (i := 9) (v := .int .i64 y.frame) rfl (by kernel_rfl) (by kernel_rfl) (by kernel_rfl) (fun _ _ _ h => h) (Or.inl ⟨by kernel_rfl, by (intro w hSw; (try dsimp only at hSw); go_simp)⟩) hHeld ?_
            simp only [Act.put, List.getElem_toArray, List.getElem_cons_succ, List.getElem_cons_zero, List.setIfInBounds_toArray, List.set_cons_zero, List.set_cons_succ]
            refine wpAnyH_take (i := 10) (v := .pointer (some ⟨Lb, 0, none⟩)) rfl (by kernel_rfl) (by kernel_rfl) (by kernel_rfl) (fun _ _ _ h => h) (Or.inl ⟨by kernel_rfl, by (intro w hSw; (try dsimp only at hSw); go_simp)⟩) hHeld ?_
            simp only [Act.put, List.getElem_toArray, List.getElem_cons_succ, List.getElem_cons_zero, List.setIfInBounds_toArray, List.set_cons_zero, List.set_cons_succ]
            refine wpAnyH_take (i := 11) (v := .int .i64 (xp : Nat)) rfl (by kernel_rfl) (by kernel_rfl) (by kernel_rfl) (fun _ _ _ h => h) (Or.inl ⟨by kernel_rfl, by (intro w hSw; (try dsimp only at hSw); go_simp)⟩) hHeld ?_
            simp only [Act.put, List.getElem_toArray, List.getElem_cons_succ, List.getElem_cons_zero, List.setIfInBounds_toArray, List.set_cons_zero, List.set_cons_succ]
            refine wpAnyH_take (i := 12) (v := .int .i64 (y.frame + (xp : Nat))) rfl (by kernel_rfl) (by kernel_rfl) (by kernel_rfl) (fun _ _ _ h => h) (Or.inl ⟨by kernel_rfl, by (intro w hSw; (try dsimp only at hSw); go_simp)⟩) hHeld ?_
            simp only [Act.put, List.getElem_toArray, List.getElem_cons_succ, List.getElem_cons_zero, List.setIfInBounds_toArray, List.set_cons_zero, List.set_cons_succ]
            refine wpAnyH_take (i := 13) (v := .slice (some ⟨gy, oy, none⟩) L c) rfl (by kernel_rfl) (by kernel_rfl) (by kernel_rfl) (fun _ _ _ h => h) (Or.inl ⟨by kernel_rfl, by (intro w hSw; (try dsimp only at hSw); go_simp)⟩) hHeld ?_
            simp only [Act.put, List.getElem_toArray, List.getElem_cons_succ, List.getElem_cons_zero, List.setIfInBounds_toArray, List.set_cons_zero, List.set_cons_succ]
            refine wpAnyH_take (i := 14) (v := .int .i64 i) rfl (by kernel_rfl) (by kernel_rfl) (by kernel_rfl) (fun _ _ _ h => h) (Or.inl ⟨by kernel_rfl, by (intro w hSw; (try dsimp only at hSw); go_simp)⟩) hHeld ?_
            simp only [Act.put, List.getElem_toArray, List.getElem_cons_succ, List.getElem_cons_zero, List.setIfInBounds_toArray, List.set_cons_zero, List.set_cons_succ]
            refine wpAnyH_take (i := 15) (v := .pointer (some ⟨gy, oy + i * 4, none⟩)) rfl (by kernel_rfl) (by kernel_rfl) (by kernel_rfl) (fun _ _ _ h => h) (Or.inl ⟨by kernel_rfl, by (intro w hSw; (try dsimp only at hSw); go_simp)⟩) hHeld ?_
            simp only [Act.put, List.getElem_toArray, List.getElem_cons_succ, List.getElem_cons_zero, List.setIfInBounds_toArray, List.set_cons_zero, List.set_cons_succ]
            refine wpAnyH_take (i := 16) (v := .pointer (some ⟨gy, oy + i * 4, none⟩)) rfl (by kernel_rfl) (by kernel_rfl) (by kernel_rfl) (fun _ _ _ h => h) (Or.inl ⟨by kernel_rfl, by (intro w hSw; (try dsimp only at hSw); go_simp)⟩) hHeld ?_
            simp only [Act.put, List.getElem_toArray, List.getElem_cons_succ, List.getElem_cons_zero, List.setIfInBounds_toArray, List.set_cons_zero, List.set_cons_succ]
            refine wpAnyH_take (i := 17) (v := .int .i64 y.page) rfl (by kernel_rfl) (by kernel_rfl) (by kernel_rfl) (fun _ _ _ h => h) (Or.inl ⟨by kernel_rfl, by (intro w hSw; (try dsimp only at hSw); go_simp)⟩) hHeld ?_
            simp only [Act.put, List.getElem_toArray, List.getElem_cons_succ, List.getElem_cons_zero, List.setIfInBounds_toArray, List.set_cons_zero, List.set_cons_succ]
            refine wpAnyH_take (i := 18) (v := .int .i64 (y.frame + (xp : Nat) - y.page)) rfl (by kernel_rfl) (by kernel_rfl) (by kernel_rfl) (fun _ _ _ h => h) (Or.inl ⟨by kernel_rfl, by (intro w hSw; (try dsimp only at hSw); go_simp)⟩) hHeld ?_
            simp only [Act.put, List.getElem_toArray, List.getElem_cons_succ, List.getElem_cons_zero, List.setIfInBounds_toArray, List.set_cons_zero, List.set_cons_succ]
            refine wpAnyH_take (i := 19) (v := .bool false) rfl (by kernel_rfl) (by kernel_rfl) (by kernel_rfl) (fun _ _ _ h => h) (Or.inl ⟨by kernel_rfl, by (intro w hSw; (try dsimp only at hSw); go_simp)⟩) hHeld ?_
            simp only [Act.put, List.getElem_toArray, List.getElem_cons_succ, List.getElem_cons_zero, List.setIfInBounds_toArray, List.set_cons_zero, List.set_cons_succ]
            refine wpAnyH_take (i := 20) (v := .bool false) rfl (by kernel_rfl) (by kernel_rfl) (by kernel_rfl) (fun _ _ _ h => h) (Or.inl ⟨by kernel_rfl, by (intro w hSw; (try dsimp only at hSw); go_simp)⟩) hHeld ?_
            simp only [Act.put, List.getElem_toArray, List.getElem_cons_succ, List.getElem_cons_zero, List.setIfInBounds_toArray, List.set_cons_zero, List.set_cons_succ]
            refine wpAnyH_take (i := 21) (v := .bool false) rfl (by kernel_rfl) (by kernel_rfl) (by kernel_rfl) (fun _ _ _ h => h) (Or.inl ⟨by kernel_rfl, by (intro w hSw; (try dsimp only at hSw); go_simp)⟩) hHeld ?_
            simp only [Act.put, List.getElem_toArray, List.getElem_cons_succ, List.getElem_cons_zero, List.setIfInBounds_toArray, List.set_cons_zero, List.set_cons_succ]
            refine wpAnyH_take (i := 22) (v := .pointer (some ⟨Lb, 2, none⟩)) rfl (by kernel_rfl) (by kernel_rfl) (by kernel_rfl) (fun _ _ _ h => h) (Or.inl ⟨by kernel_rfl, by (intro w hSw; (try dsimp only at hSw); go_simp)⟩) hHeld ?_
            simp only [Act.put, List.getElem_toArray, List.getElem_cons_succ, List.getElem_cons_zero, List.setIfInBounds_toArray, List.set_cons_zero, List.set_cons_succ]
            refine wpAnyH_take (i := 23) (v := .int .i64 (xr : Nat)) rfl (by kernel_rfl) (by kernel_rfl) (by kernel_rfl) (fun _ _ _ h => h) (Or.inl ⟨by kernel_rfl, by (intro w hSw; (try dsimp only at hSw); go_simp)⟩) hHeld ?_
            simp only [Act.put, List.getElem_toArray, List.getElem_cons_succ, List.getElem_cons_zero, List.setIfInBounds_toArray, List.set_cons_zero, List.set_cons_succ]
            refine wpAnyH_take (i := 24) (v := .slice (some ⟨gy, oy, none⟩) L c) rfl (by kernel_rfl) (by kernel_rfl) (by kernel_rfl) (fun _ _ _ h => h) (Or.inl ⟨by kernel_rfl, by (intro w hSw; (try dsimp only at hSw); go_simp)⟩) hHeld ?_
            simp only [Act.put, List.getElem_toArray, List.getElem_cons_succ, List.getElem_cons_zero, List.setIfInBounds_toArray, List.set_cons_zero, List.set_cons_succ]
            refine wpAnyH_take (i := 25) (v := .int .i64 i) rfl (by kernel_rfl) (by kernel_rfl) (by kernel_rfl) (fun _ _ _ h => h) (Or.inl ⟨by kernel_rfl, by (intro w hSw; (try dsimp only at hSw); go_simp)⟩) hHeld ?_
            simp only [Act.put, List.getElem_toArray, List.getElem_cons_succ, List.getElem_cons_zero, List.setIfInBounds_toArray, List.set_cons_zero, List.set_cons_succ]
            refine wpAnyH_take (i := 26) (v := .pointer (some ⟨gy, oy + i * 4, none⟩)) rfl (by kernel_rfl) (by kernel_rfl) (by kernel_rfl) (fun _ _ _ h => h) (Or.inl ⟨by kernel_rfl, by (intro w hSw; (try dsimp only at hSw); go_simp)⟩) hHeld ?_
            simp only [Act.put, List.getElem_toArray, List.getElem_cons_succ, List.getElem_cons_zero, List.setIfInBounds_toArray, List.set_cons_zero, List.set_cons_succ]
            refine wpAnyH_take (i := 27) (v := .pointer (some ⟨gy, oy + i * 4 + 3, none⟩)) rfl (by kernel_rfl) (by kernel_rfl) (by kernel_rfl) (fun _ _ _ h => h) (Or.inl ⟨by kernel_rfl, by (intro w hSw; (try dsimp only at hSw); go_simp)⟩) hHeld ?_
            simp only [Act.put, List.getElem_toArray, List.getElem_cons_succ, List.getElem_cons_zero, List.setIfInBounds_toArray, List.set_cons_zero, List.set_cons_succ]
            refine wpAnyH_take (i := 28) (v := .int .i64 y.rights) rfl (by kernel_rfl) (by kernel_rfl) (by kernel_rfl) (fun _ _ _ h => h) (Or.inl ⟨by kernel_rfl, by (intro w hSw; (try dsimp only at hSw); go_simp)⟩) hHeld ?_
            simp only [Act.put, List.getElem_toArray, List.getElem_cons_succ, List.getElem_cons_zero, List.setIfInBounds_toArray, List.set_cons_zero, List.set_cons_succ]
            refine wpAnyH_take (i := 29) (v := .bool false) rfl (by kernel_rfl) (by kernel_rfl) (by kernel_rfl) (fun _ _ _ h => h) (Or.inl ⟨by kernel_rfl, by (intro w hSw; (try dsimp only at hSw); go_simp)⟩) hHeld ?_
            simp only [Act.put, List.getElem_toArray, List.getElem_cons_succ, List.getElem_cons_zero, List.setIfInBounds_toArray, List.set_cons_zero, List.set_cons_succ]
            refine wpAnyH_take (i := 30) (v := .bool false) rfl (by kernel_rfl) (by kernel_rfl) (by kernel_rfl) (fun _ _ _ h => h) (Or.inl ⟨by kernel_rfl, by (intro w hSw; (try dsimp only at hSw); go_simp)⟩) hHeld ?_
            simp only [Act.put, List.getElem_toArray, List.getElem_cons_succ, List.getElem_cons_zero, List.setIfInBounds_toArray, List.set_cons_zero, List.set_cons_succ]
            refine wpAnyH_done (by kernel_rfl) ?_ _
            clear hHeld d0 m0 m1 m2 n0 n2 n3
            gi_wp2
            exact HFIN.out
          case done =>
            rintro s W rfl hi hD
            obtain ⟨hi1, hi2, hi3, hi4, hi5⟩ := hi
            have HD : Hid (W.heap[w7.heap.size]? = some (.deferred (some [])) ∧ MpS w W H P b g rb ys a L c ∧ Blk W Cb [.int .i64 (cntP (findL rs) 256 : Nat)] 3) := ⟨hD, hi1, hi2⟩
            have HAD : Hid (∀ (p q : Nat), p < 256 → q < 8 → ∀ x, findL rs p = some x → addrE 64 ys r ((16 * p + p % 16 : Nat) : Int) q = (if subR q x.2 then 0 else 93) ∧ addrV 64 ys r ((16 * p + p % 16 : Nat) : Int) q = (if subR q x.2 then 16 * x.1 + p % 16 else 0)) := fun p q hp hq x hx => by
              obtain ⟨q1, q2⟩ := built_walk HG.out.2.1 HG.out.2.2.1 (by omega) (find_in HG.out.1.1 HG.out.1.2) p hp
              rw [← HG.out.2.2.2, hx] at q1 q2
              have hrl := HG.out.2.1.rl
              have e : ((16 * p + p % 16 : Nat) : Int) / 16 = (p : Int) := by omega
              have hE : addrE 64 ys r ((16 * p + p % 16 : Nat) : Int) q = (if subR q x.2 then 0 else 93) := by
                unfold addrE
                rw [if_neg (by omega), if_neg (by omega), if_neg (by omega), e, q1, q2]
                simp
              refine ⟨hE, ?_⟩
              unfold addrV
              rw [hE, e, q2]
              cases subR q x.2
              · simp
              · simp; omega
            clear hi1 hi2 hi3 hi4 hi5 hD kp
            gi_wp2
            go_wp2
            go_loopw [22] (fun i wr => ∃ p : Nat, p ≤ 256 ∧ i = .int .i64 p ∧ Blk wr Cb [.int .i64 ((cntP (findL rs) 256 - cntP (findL rs) p : Nat) : Int)] 3 ∧ Keeps (· = Cb) W wr) (fun i _ => 256 - (intOf i).toNat)
            case atStart => exact ⟨0, by omega, rfl, HD.out.2.2, Keeps.refl _ _⟩
            case round =>
              obtain ⟨p, hp, rfl, hC, hK⟩ := hrel
              obtain ⟨x1, x2, x3, x4, x5, x6, x7, x8, x9⟩ := HS8.out
              have hl2 := HA.out.2.2.2.2.2.1
              have sW : MpS w wr H P b g rb ys a L c := HD.out.2.1.kept hK (by omega) (by omega) (by omega) (by omega) (by omega) (fun k hk e => by omega)
              have HW : Hid (MpS w wr H P b g rb ys a L c ∧ Blk wr Cb [.int .i64 ((cntP (findL rs) 256 - cntP (findL rs) p : Nat) : Int)] 3 ∧ Keeps (· = Cb) W wr) := ⟨sW, hC, hK⟩
              by_cases hlt : p < 256
              · have hlt' : (p : Int) < 256 := by omega
                have c0 := sW.bx.cell (i := 0) rfl
                have cP := sW.p.cell (i := 0) rfl
                have HAsk := asked_any a rs c p wr HQ.out.2.1 (HQ.out.1.grown sW.k) (may_ok HG.out.1.1) hlt
                rw [← HA.out.2.2.2.2.2.2.1] at HAsk
                have HWk : Hid (∀ W', Keeps (fun _ => False) wr W' → Calls _ _ _ W' _) := fun W' hk => walk_any b g 64 ys r p W' (HW.out.1.grown hk).m
                obtain ⟨bw1, bw2⟩ := built_walk HG.out.2.1 HG.out.2.2.1 (by omega) (find_in HG.out.1.1 HG.out.1.2) p hlt
                rw [← HG.out.2.2.2] at bw1 bw2
                by_cases hidx : 0 ≤ idx rs p
                · obtain ⟨i, y, hi1, hi2, ⟨o1, o2, o3, o4, o5, o6, o7⟩, hi4, hi5, hi6⟩ := idx_at HG.out.1.1 hidx
                  rw [hi6] at bw1 bw2
                  simp only [Option.isSome_some, if_true] at bw1 bw2
                  rw [bw1, bw2] at HWk
                  rw [hi1] at HAsk
                  have HAsk : Hid (Calls _ _ _ _ _) := HAsk
                  obtain ⟨F, hF⟩ : ∃ F : Nat, F = (y.frame + ((p : Int) - y.page)).toNat := ⟨_, rfl⟩
                  obtain ⟨R, hR⟩ : ∃ R : Nat, R = y.rights.toNat := ⟨_, rfl⟩
                  rw [← hF, ← hR] at HWk
                  have hFi : (F : Int) = y.frame + (p : Int) - y.page := by omega
                  have hRi : (R : Int) = y.rights := by omega
                  have hR8 : R < 8 := by omega
                  have HC1 : Hid (cntP (findL rs) (p + 1) = cntP (findL rs) p + 1 ∧ cntP (findL rs) (p + 1) ≤ cntP (findL rs) 256 ∧ cntP (findL rs) 256 ≤ 256) := ⟨by show cntP _ p + _ = _; rw [hi6]; rfl, cntP_mono _ (by omega), cntP_le _ _⟩
                  have HADp : Hid (∀ q : Nat, q < 8 → addrE 64 ys r ((16 * p + p % 16 : Nat) : Int) q = (if subR q R then 0 else 93) ∧ addrV 64 ys r ((16 * p + p % 16 : Nat) : Int) q = (if subR q R then 16 * F + p % 16 else 0)) := fun q hq => by
                    have := HAD.out p q hlt hq _ hi6
                    rw [← hF, ← hR] at this; exact this
                  obtain ⟨gy, oy, rfl, hyA⟩ := HQ.out.1.at hi2
                  have HYA : Hid (RgAt w gy (oy + i * 4) y) := hyA
                  have hiL : (i : Int) < L := by have := (List.getElem?_eq_some_iff.1 hi2).1; have := HA.out.2.2.2.2.2.2.1; omega
                  have hLc' : (L : Int) ≤ c := by have := HQ.out.2.1; have := HA.out.2.2.2.2.2.2.1; omega
                  have hcc : (c : Int) ≤ 9223372036854775807 := by have := HQ.out.2.1.2; unfold maxLen at this; omega
                  have hu1 : IntKind.i64.wrap (y.frame + (p : Int)) = y.frame + (p : Int) := by rw [IntKind.wrap_i64]; omega
                  have hu2 : IntKind.i64.wrap (y.frame + (p : Int) - y.page) = y.frame + (p : Int) - y.page := by rw [IntKind.wrap_i64]; omega
                  have hu3 : IntKind.i64.wrap (16 * (y.frame + (p : Int) - y.page)) = 16 * (y.frame + (p : Int) - y.page) := by rw [IntKind.wrap_i64]; omega
                  have hu4 : IntKind.i64.wrap (16 * (y.frame + (p : Int) - y.page) + (p : Int) % 16) = 16 * (y.frame + (p : Int) - y.page) + (p : Int) % 16 := by rw [IntKind.wrap_i64]; omega
                  have HFR : Hid ((F : Int) = y.frame + (p : Int) - y.page ∧ (R : Int) = y.rights ∧ R < 8) := ⟨hFi, hRi, hR8⟩
                  have cC := hC.cell (i := 0) rfl
                  have zC := hC.frozen 0
                  have HXX : Hid (H + 2 ≤ Cb ∧ P < Cb ∧ b < Cb ∧ g < Cb) := ⟨x5, x7, x8, x9⟩
                  obtain ⟨N, hN⟩ : ∃ N : Nat, N = cntP (findL rs) 256 - cntP (findL rs) p := ⟨_, rfl⟩
                  rw [← hN] at cC
                  have hN1 : (1 : Int) ≤ N := by have := HC1.out; omega
                  have hN2 : (N : Int) ≤ 256 := by have := HC1.out; omega
                  have HN : Hid (N = cntP (findL rs) 256 - cntP (findL rs) p) := hN
                  clear hN bw1 bw2 hi1 hi2 hi4 hi5 hi6 hF hR hFi hRi hR8 hidx sW hC hK x1 x2 x3 x4 x5 x6 x7 x8 x9 hl2 o1 o2 o3 o4 o5 o6 o7 hyA
                  go_wp2_with fail
                  refine HAsk.out.mono ?_
                  rintro e W2 ⟨rfl, hK2⟩
                  have cP2 := cell_kept cP hK2 fun h => h
                  have H2 : Hid (Keeps (fun _ => False) wr W2) := hK2
                  have HWk2 : Hid (Calls _ _ _ _ _) := HWk.out W2 hK2
                  clear hK2 HAsk HWk c0 cP
                  go_wp2_with fail
                  refine HWk2.out.mono ?_
                  rintro e W3 ⟨rfl, hK3⟩
                  have H3 : Hid (Keeps (fun _ => False) wr W3) := H2.out.trans hK3 fun _ _ h => h
                  have cC3 := cell_kept cC (H2.out.trans hK3 fun _ _ h => h) fun h => h
                  have zC3 := ((HW.out.2.1.kept (H2.out.trans hK3 fun _ _ h => h) fun h => h)).frozen 0
                  have hne : Cb < W3.heap.size := World.block_lt_of_cell? W3 _ cC3
                  clear hK3 HWk2 cP2 cC zC
                  go_wp2
                  obtain ⟨Wx, hWx⟩ : ∃ Wx, Wx = (W3.setCell ⟨Cb, 0, none⟩ (.int .i64 ((N : Int) - 1))).alloc (.cells #[.int .i64 (p : Nat), .int .i64 (F : Nat), .int .i64 (R : Nat)] 51) := ⟨_, rfl⟩
                  have hkx : Keeps (· = Cb) wr Wx := by rw [hWx]; exact (((H3.out.mono (T := (· = Cb)) fun _ _ h => h.elim)).setCell ⟨Cb, 0, none⟩ _ fun _ => rfl).alloc _
                  have bX : Blk Wx Cb [.int .i64 ((N : Int) - 1)] 3 := by
                    rw [hWx]
                    exact ((HW.out.2.1.kept H3.out fun h => h).setCell 0 (.int .i64 ((N : Int) - 1))).alloc _
                  have HX : Hid (Keeps (· = Cb) wr Wx ∧ Blk Wx Cb [.int .i64 ((N : Int) - 1)] 3 ∧ Wx = (W3.setCell ⟨Cb, 0, none⟩ (.int .i64 ((N : Int) - 1))).alloc (.cells #[.int .i64 (p : Nat), .int .i64 (F : Nat), .int .i64 (R : Nat)] 51)) := ⟨hkx, bX, hWx⟩
                  rw [← hWx]
                  clear hkx bX hWx cC3 zC3 hne
                  go_loopw [26, 27, 28] (fun q u v wq => ∃ qq : Nat, qq ≤ 8 ∧ q = .int .i64 qq ∧ Keeps (fun _ => False) Wx wq) (fun q _ _ _ => 8 - (intOf q).toNat)
                  case atStart => exact ⟨0, by omega, rfl, Keeps.refl _ _⟩
                  case round =>
                    obtain ⟨q, hq, rfl, hKq⟩ := hrel
                    have HKQ : Hid (Keeps (fun _ => False) Wx wr) := hKq
                    by_cases hq8 : q < 8
                    · have hx4 := HXX.out
                      have hl2 := HA.out.2.2.2.2.2.1
                      have sQ := (HW.out.1.kept HX.out.1 (by omega) (by omega) (by omega) (by omega) (by omega) (fun k hk e => by omega)).grown hKq
                      have cP := sQ.p.cell (i := 0) rfl
                      have cH := sQ.bx.cell (i := 0) rfl
                      obtain ⟨y0, y1, y2, y3⟩ := HYA.out.kept sQ.k fun h => h
                      have HAd := address_any b g 64 ys r ((16 * p + p % 16 : Nat) : Int) q wr sQ.m
                      obtain ⟨ad1, ad2⟩ := HADp.out q hq8
                      rw [ad1, ad2, show ((16 * p + p % 16 : Nat) : Int) = 16 * (p : Int) + (p : Int) % 16 by omega] at HAd
                      have hand := and_sub q R hq8 HFR.out.2.2
                      rw [HFR.out.2.1] at hand
                      have hq8' : (q : Int) < 8 := by omega
                      clear hKq sQ ad1 ad2 hx4 hl2
                      cases hsub : subR q R
                      · rw [hsub] at hand HAd
                        have HAd : Hid (Calls _ _ _ _ _) := HAd
                        clear hsub
                        go_wp2_with fail
                        refine HAd.out.mono ?_
                        rintro e W4 ⟨rfl, hK4⟩
                        have H4 : Hid (Keeps (fun _ => False) Wx W4) := HKQ.out.trans hK4 fun _ _ h => h
                        have d1 := cell_kept cH hK4 fun h => h
                        have d2 := cell_kept y3 hK4 fun h => h
                        clear hK4 HAd cP cH y0 y1 y2 y3
                        go_wp2
                        go_roundw
                        case rel => exact ⟨q + 1, by omega, by go_num, H4.out⟩
                        case measure => simp [intOf]; omega
                      · rw [hsub] at hand HAd
                        have hV : (((16 * F + p % 16 : Nat) : Int) != 16 * (y.frame + (p : Int) - y.page) + (p : Int) % 16) = false := by
                          have := HFR.out.1
                          rw [← this]; simp
                        rw [if_pos rfl, if_pos rfl] at HAd
                        have HAd : Hid (Calls _ _ _ _ _) := HAd
                        obtain ⟨V, hVV⟩ : ∃ V : Nat, V = 16 * F + p % 16 := ⟨_, rfl⟩
                        rw [← hVV] at HAd hV
                        clear hsub hVV
                        go_wp2_with fail
                        refine HAd.out.mono ?_
                        rintro e W4 ⟨rfl, hK4⟩
                        have H4 : Hid (Keeps (fun _ => False) Wx W4) := HKQ.out.trans hK4 fun _ _ h => h
                        have d1 := cell_kept cH hK4 fun h => h
                        have d2 := cell_kept y3 hK4 fun h => h
                        have d3 := cell_kept y0 hK4 fun h => h
                        have d4 := cell_kept y2 hK4 fun h => h
                        clear hK4 HAd cP cH y0 y1 y2 y3
                        go_wp2_with fail
                        go_quiet (fail)
                        go_wp2
                        go_roundw
                        case rel => exact ⟨q + 1, by omega, by go_num, H4.out.drewN _⟩
                        case measure => simp [intOf]; omega
                    · obtain rfl : q = 8 := by omega
                      clear hKq
                      go_wp2
                      go_roundw
                      case rel =>
                        refine ⟨p + 1, by omega, by go_num, ?_, HW.out.2.2.trans (HX.out.1.trans HKQ.out fun _ _ h => h.elim) fun _ _ h => h⟩
                        have hb := HX.out.2.1.kept HKQ.out fun h => h
                        rw [show ((cntP (findL rs) 256 - cntP (findL rs) (p + 1) : Nat) : Int) = (N : Int) - 1 by have := HC1.out; have := HN.out; omega]
                        exact hb
                      case measure => simp [intOf]; omega
                · have hnone : findL rs p = none := by
                    have := idx_find rs p
                    rw [decide_eq_false hidx] at this
                    cases hq : findL rs p with
                    | none => rfl
                    | some q => rw [hq] at this; simp at this
                  rw [hnone] at bw1 bw2
                  simp only [Option.isSome_none, Bool.false_eq_true, if_false] at bw1 bw2
                  rw [bw1, bw2] at HWk
                  obtain ⟨iv, hiv⟩ : ∃ iv, iv = idx rs p := ⟨_, rfl⟩
                  rw [← hiv] at HAsk hidx
                  have HAsk : Hid (Calls _ _ _ _ _) := HAsk
                  have HC1 : Hid (cntP (findL rs) (p + 1) = cntP (findL rs) p) := by show cntP _ p + _ = _; rw [hnone]; rfl
                  have hidx' : iv < 0 := by omega
                  clear bw1 bw2 hnone hiv hidx sW hC hK x1 x2 x3 x4 x5 x6 x7 x8 x9 hl2
                  go_wp2_with fail
                  refine HAsk.out.mono ?_
                  rintro e W2 ⟨rfl, hK2⟩
                  have cP2 := cell_kept cP hK2 fun h => h
                  have H2 : Hid (Keeps (fun _ => False) wr W2) := hK2
                  have HWk2 : Hid (Calls _ _ _ _ _) := HWk.out W2 hK2
                  clear hK2 HAsk HWk c0 cP
                  go_wp2_with fail
                  refine HWk2.out.mono ?_
                  rintro e W3 ⟨rfl, hK3⟩
                  have H3 : Hid (Keeps (fun _ => False) wr W3) := H2.out.trans hK3 fun _ _ h => h
                  clear hK3 HWk2 cP2
                  go_wp2
                  go_roundw
                  case rel =>
                    have hk := H3.out.alloc (.cells #[.int .i64 0, .int .i64 0, .int .i64 0] 51)
                    exact ⟨p + 1, by omega, by go_num, by rw [HC1.out]; exact HW.out.2.1.kept hk fun h => h, HW.out.2.2.trans hk fun _ _ h => h.elim⟩
                  case measure => simp [intOf]; omega
              · obtain rfl : p = 256 := by omega
                have cC := hC.cell (i := 0) rfl
                rw [Nat.sub_self] at cC
                have cR := sW.rs.cell (i := 0) rfl
                have zR := sW.rs.frozen 0
                clear sW hC hK x1 x2 x3 x4 x5 x6 x7 x8 x9 hl2
                go_wp2
                obtain ⟨x1, x2, x3, x4, x5, x6, x7, x8, x9⟩ := HS8.out
                have hl2 := HA.out.2.2.2.2.2.1
                have l1 := x4.lt
                have l7 := x3.lt
                have hs := HW.out.1
                have hb := hs.rs.setCell 0 (.bool true)
                have kS : Keeps (· = H + 1) wr (wr.setCell ⟨H + 1, 0, none⟩ (.bool true)) := (Keeps.refl (· = H + 1) wr).setCell _ _ fun _ => rfl
                have hd : (wr.setCell ⟨H + 1, 0, none⟩ (.bool true)).heap[w7.heap.size]? = some (.deferred (some [])) := by
                  have hlt7 := (Array.getElem?_eq_some_iff.1 HD.out.1).1
                  have := HW.out.2.2.size
                  exact (kS.block _ (by omega) (by omega)).trans ((HW.out.2.2.block _ hlt7 (by omega)).trans HD.out.1)
                have kw := hs.k.trans kS fun k hk e => by omega
                revert hb hd kw
                generalize wr.setCell ⟨H + 1, 0, none⟩ (.bool true) = WF
                intro hb hd kw
                have hKg : Keeps (· = w7.heap.size) WF (WF.putObj w7.heap.size (.deferred none)) := ⟨rfl, rfl, rfl, by simp, fun k _ hn => World.putObj_heap_other hn⟩
                have u1 := (hb.kept hKg (by omega)).cell (i := 0) rfl
                refine ⟨by simp, .inl ⟨_, _, rfl, run_takeDeferred hd, ?_⟩⟩
                exact ⟨_, results_cell (p := 6) (ty := 4) rfl _ _ ⟨H + 1, 0, none⟩ (.bool true) rfl (by simp [go_sem, u1]), rfl, kw.trans hKg fun k hk e => by have := HW.out.1.k.size; have := HW.out.2.2.size; omega⟩
    · have hz0' : ((z : Int) == 0) = false := by simp; omega
      have hz0'' : ((z : Int) != 0) = true := by rw [bne_iff_ne]; omega
      have HYE : Hid (ys = xs0 64) := by show ys = xs0 64; rw [HS4.out.2.2.1]; unfold BldX; rw [if_neg hz0]
      have HZ0 : Hid (z ≠ 0) := hz0
      clear hz0
      go_loopw [15, 16, 17] (fun i u v wr => ∃ j : Nat, j ≤ 1024 ∧ i = .int .i64 j ∧ Keeps (fun _ => False) w6 wr) (fun i _ _ _ => 1024 - (intOf i).toNat)
      case atStart => exact ⟨0, by omega, rfl, Keeps.refl _ _⟩
      case round =>
        obtain ⟨j, hj, rfl, hK⟩ := hrel
        have HK : Hid (Keeps (fun _ => False) w6 wr) := hK
        by_cases hlt : j < 1024
        · have hjy : j < ys.length := by rw [HYL.out]; exact hlt
          have hjx : j < (xs0 64).length := by rw [xs0_length 64 (by omega)]; exact hlt
          have cx := (HS6.out.2.1.kept hK fun h => h).cell (wvs_get _ j hjx)
          have cy := (HS6.out.2.2.kept hK fun h => h).cell (wvs_get _ j hjy)
          have hxy : (ys[j]'hjy).toNat = ((xs0 64)[j]'hjx).toNat := by have := HYE.out; subst this; rfl
          rw [hxy] at cy
          obtain ⟨v0, hv0⟩ : ∃ v : Nat, v = ((xs0 64)[j]'hjx).toNat := ⟨_, rfl⟩
          rw [← hv0] at cx cy
          have hlt' : (j : Int) < 1024 := by omega
          clear hjy hjx hxy hv0 hK
          go_wp2
          go_loopw [17, 16] (fun k u wr2 => k = .int .i64 0 ∧ u = .bool false ∧ Hid (wr2 = wr)) (fun _ _ _ => 0)
          case atStart => exact ⟨rfl, rfl, rfl⟩
          case round =>
            rename_i wr2 _
            obtain ⟨rfl, rfl, hw2⟩ := hrel
            have hw2 := hw2.out.symm
            subst hw2
            go_wp2_with fail
            go_quiet (fail)
            go_wp2
            go_roundw
            case rel => exact ⟨j + 1, by omega, by go_num, HK.out.drewN _⟩
            case measure => simp [intOf]; omega
        · obtain rfl : j = 1024 := by omega
          have s7 := HS6.out.1.grown hK
          have c1 := s7.rs.cell (i := 0) rfl
          have zz1 := s7.rs.frozen 0
          have HS7 : Hid (MpS w wr H P b g rb ys a L c) := s7
          clear hK s7
          have fin : Hid ((loadVar 4 ⟨H + 1, 0, none⟩).run Try.prog (wr.setCell ⟨H + 1, 0, none⟩ (.bool true)) = .ok (.bool true) (wr.setCell ⟨H + 1, 0, none⟩ (.bool true)) ∧ Keeps (fun _ => False) w (wr.setCell ⟨H + 1, 0, none⟩ (.bool true))) := by
            have hs := HS7.out
            have hb := hs.rs.setCell 0 (.bool true)
            have hk := hs.k.setCell ⟨H + 1, 0, none⟩ (.bool true) fun e => by have := HA.out.2.2.2.2.2.1; simp only at e; omega
            have u := hb.cell (i := 0) rfl
            exact ⟨by simp [go_sem, u], hk⟩
          rcases HZZ.out with h | h | h | h | h
          · exact absurd h HZ0.out
          all_goals
            subst h
            go_wp2
            exact ⟨_, results_cell (p := 6) (ty := 4) rfl _ _ ⟨H + 1, 0, none⟩ (.bool true) rfl fin.out.1, rfl, fin.out.2⟩

end Go.Proofs.Ytpccdhoaicabcaa
