import Derived.Test.YtglhfijgnfignaaGreatBp
import Derived.Test.YtglhfijgnfignaaGreatTm
import Derived.Test.YtglhfijgnfignaaGreatTo
namespace Go.Proofs.YtglhfijgnfignaaGreat
open Go.RowKit Go.Shelf
open Mq
set_option linter.unusedVariables false
set_option maxRecDepth 6000
set_option linter.unusedSimpArgs false
attribute [local go_sem] Oper.semAt_some
theorem Cfg.Eqv.bare {x y : Cfg} (h : x.Eqv y) : y.b = x.b := by
 have e1 : ∀ l : List Core, l.map Core.b = (l.map (·.ws)).map fun ws => (⟨none, 0, ws⟩ : Core) := fun l => by rw [List.map_map]; rfl
 have e2 : y.ps.map Par.b = x.ps.map Par.b := by
  refine List.ext_getElem? fun i => ?_
  rw [List.getElem?_map, List.getElem?_map]
  by_cases hi : i < x.ps.length
  ·
   have hi' : i < y.ps.length := by rw [h.len]; exact hi
   rw [List.getElem?_eq_getElem hi, List.getElem?_eq_getElem hi']
   obtain ⟨a1, a2, a3, a4, a5, a6, a7, a8⟩ := h.ps i _ _ (List.getElem?_eq_getElem hi') (List.getElem?_eq_getElem hi)
   simp only [Option.map_some, Par.b, a1, a2, a3, a4, a5, a6, a7, a8]
  ·
   have hl := h.len
   rw [List.getElem?_eq_none (by omega), List.getElem?_eq_none (by omega)]
 unfold Cfg.b
 rw [e1, e1, h.cs, e2, h.frames, h.major, h.kernel, h.room, h.hs]
theorem rt_bare (x : Cfg) (i : Nat) : rt x.b i = rt x i := by
 have e1 : chB x.b (16 * x.kernel) = chB x (16 * x.kernel) := by unfold chB; rw [(len_b x).1]
 have e2 : chE x.b (16 * x.kernel) = chE x (16 * x.kernel) := by unfold chE; rw [chAt_b, e1]; rfl
 have e3 : rtB x.b (16 * x.kernel) = rtB x (16 * x.kernel) := by unfold rtB; rw [e2]
 show rtAt x.b (rtB x.b (16 * x.kernel)) i = _
 rw [rtAt_b, e3]
 rfl
theorem Cfg.Eqv.rt {x y : Cfg} (h : x.Eqv y) (i : Nat) : rt y i = rt x i := by rw [← rt_bare y, h.bare, rt_bare]
theorem Cfg.Eqv.rtN {x y : Cfg} (h : x.Eqv y) (i : Nat) : rtN y i = rtN x i := by unfold Go.Proofs.YtglhfijgnfignaaGreat.rtN; rw [h.rt]
theorem Cfg.Eqv.gd {x y : Cfg} (h : x.Eqv y) : Gd y ↔ Gd x := by rw [← chk_n, ← chk_n, ← chk_b y, h.bare, chk_b]
theorem Cfg.In.mono {x : Cfg} {w : World} {N N' : Nat} (h : x.In w N) (k : N ≤ N') : x.In w N' :=
 ⟨h.cseg, fun a y b => Nat.lt_of_lt_of_le (h.clo a y b) k, h.clen, fun y hy => ⟨(h.cin y hy).seg, fun a z b => Nat.lt_of_lt_of_le ((h.cin y hy).lo a z b) k, (h.cin y hy).len, (h.cin y hy).fine⟩, h.pseg, fun a y b => Nat.lt_of_lt_of_le (h.plo a y b) k, h.plen,
  fun y hy => ⟨(h.pin y hy).rseg, fun a z b => Nat.lt_of_lt_of_le ((h.pin y hy).rlo a z b) k, (h.pin y hy).rlen, (h.pin y hy).rfine, (h.pin y hy).pseg, fun a z b => Nat.lt_of_lt_of_le ((h.pin y hy).plo a z b) k, (h.pin y hy).plen, (h.pin y hy).pfine, (h.pin y hy).ns, (h.pin y hy).name⟩,
  h.hseg, fun a y b => Nat.lt_of_lt_of_le (h.hlo a y b) k, h.hlen, h.hfine, h.ns⟩
theorem PrgIn.ofWide {w : World} {G : Nat} {qs : List Prg} (hB : Blk w G (qs.flatMap Prg.vs) 43) (hq : ∀ q ∈ qs, q.Ok w w.heap.size) (hl : qs.length ≤ maxLen) : PrgIn w w.heap.size (some ⟨G, 0, none⟩) qs.length qs := by
 refine ⟨.inr ⟨G, 0, rfl, fun j q hj i v hv => ?_⟩, fun _ y hy => ?_, ⟨Nat.le_refl _, hl⟩, hq⟩
 ·
  obtain ⟨rfl, rfl⟩ : i = 0 ∧ v = .slice q.a q.ws.length q.c := by
   match i with
   | 0 => simp at hv; exact ⟨rfl, hv.symm⟩
   | i + 1 => simp at hv
  refine hB.cell ?_
  have key : ∀ (l : List Prg) (j : Nat), l[j]? = some q → (l.flatMap Prg.vs)[j]? = some (.slice q.a q.ws.length q.c) := by
   intro l
   induction l with
   | nil => intro j h; simp at h
   | cons a l ih =>
    intro j h
    cases j with
    | zero => simp at h; subst h; rfl
    | succ j => simp at h; rw [List.flatMap_cons]; simpa using ih j h
  rw [Nat.zero_add, Nat.mul_one, Nat.add_zero]
  exact key qs j hj
 ·
  obtain rfl := Option.some.inj hy
  exact hB.lt
set_option maxHeartbeats 4000000 in
theorem maps_any (x : Cfg) (pa : Option Addr) (pc : Nat) (ps : List Prg) (w : World) (N : Nat) (hi : x.In w N) (hN : N ≤ w.heap.size) (hs : Sml x) (hp : PrgIn0 w N pa pc ps) (hps : PSml ps) :
  Calls Tryz.prog 3 #[x.v, .slice pa ps.length pc] w fun e w' => e = .returned (.bool true) ∧ Keeps (fun _ => False) w w' := by
 obtain ⟨W, hW⟩ : ∃ W, W = x.laid w := ⟨_, rfl⟩
 obtain ⟨C, hC⟩ : ∃ C, C = w.heap.size := ⟨_, rfl⟩
 have hO : One w x C N W := by rw [hW, hC]; exact One.mk' hi hN
 have HO : Hid (One w x C N W) := hO
 have HP : Hid (PrgIn0 w N pa pc ps ∧ PSml ps ∧ Sml x ∧ N ≤ w.heap.size) := ⟨hp, hps, hs, hN⟩
 have HC : Hid (Calls Tryz.prog 6 #[x.v] W (CopP x W)) := Copied_any x W N hO.cin hO.nn hs
 obtain ⟨q0, q1, q2, q3, q4, q5, q6⟩ := hO.cells
 obtain ⟨L, hL⟩ : ∃ L, L = ps.length := ⟨_, rfl⟩
 have HL : Hid (L = ps.length) := hL
 have hlp := hp.len
 have hLc : (L : Int) ≤ pc := by omega
 have hpc : (pc : Int) ≤ 9223372036854775807 := by unfold maxLen at hlp; omega
 rw [← hL]
 unfold Cfg.laid at hW
 clear hi hN hp hps hs hO hL hlp
 go_enter Tryz.func3, Tryz.ntmps3
 go_upto_region 1 with fail
 rw [← hW, ← hC]
 clear hW hC
 go_wp2_with fail
 refine HC.out.mono ?_
 rintro e w1 ⟨x1, rfl, hE1, hI1, hLo1, hK1⟩
 have HC2 : Hid (Calls _ _ _ w1 _) := wide_any pa pc ps w1 N (Nat.le_trans HO.out.nn hK1.size) (HP.out.1.kept (HO.out.keeps.trans hK1 fun _ _ h => h)) HP.out.2.1
 rw [← HL.out] at HC2
 have H1 : Hid (x.Eqv x1 ∧ x1.In w1 w1.heap.size ∧ Keeps (fun _ => False) W w1) := ⟨hE1, hI1, hK1⟩
 clear hE1 hI1 hLo1 hK1 HC q0 q1 q2 q3 q4 q5 q6
 go_wp2_with fail
 refine HC2.out.mono ?_
 rintro e w2 ⟨hK2, G, qs, rfl, hqm, hG, hBG, hq, hql⟩
 have HC3 : Hid (Calls _ _ _ w2 _) := boot_any x1 (some ⟨G, 0, none⟩) qs.length qs w2 w2.heap.size (((H1.out.2.1).keeps (Nat.le_refl _) hK2).mono hK2.size) (Nat.le_refl _) (PrgIn.ofWide hBG (fun q h => (hq q h).1) hql)
 rw [hqm] at HC3
 have H2 : Hid (Keeps (fun _ => False) w1 w2) := hK2
 clear hK2 hqm hG hBG hq hql HC2
 go_wp2_with fail
 refine HC3.out.mono ?_
 rintro e w3 ⟨hK3, ⟨z, t, hz, rfl⟩ | ⟨hgd, hlie, b, g, rfl, hbg, hMn⟩⟩
 ·
  have HK : Hid (Keeps (fun _ => False) w w3) := ((HO.out.keeps.trans H1.out.2.2 fun _ _ h => h).trans H2.out fun _ _ h => h).trans hK3 fun _ _ h => h
  have hz1 : ¬ z = 0 := by omega
  have hz2 : (240 : Int) ≤ z := by omega
  have hz3 : z ≤ 241 := by omega
  clear hK3 hz HC3
  go_wp2
  go_ret
  exact ⟨rfl, HK.out⟩
 ·
  obtain ⟨n, hn⟩ : ∃ n : Nat, n = x.frames.toNat := ⟨_, rfl⟩
  have hgx : Gd x := H1.out.1.gd.1 hgd
  rw [H1.out.1.frames, ← hn] at hMn
  have hnf : (n : Int) = x.frames := by have := hgx.frames; omega
  have hnf1 : (n : Int) = x1.frames := by rw [H1.out.1.frames]; exact hnf
  have hBI := boot_inv hgd hnf1 (ps.map Prg.ws) hlie.1 (ps.map Prg.ws).length (Nat.le_refl _)
  obtain ⟨xs, hxs⟩ : ∃ xs, xs = bootL x1 n (ps.map Prg.ws) (ps.map Prg.ws).length := ⟨_, rfl⟩
  rw [← hxs] at hMn hBI
  have H3 : Hid (One w x C N w3 ∧ Mn w3 b g n xs ∧ BootI x1 n (ps.map Prg.ws) (ps.map Prg.ws).length xs ∧ Gd x1 ∧ AllLie x1 (ps.map Prg.ws) (ps.map Prg.ws).length ∧ Gd x ∧ (n : Int) = x1.frames) :=
   ⟨HO.out.kept ((H1.out.2.2.trans H2.out fun _ _ h => h).trans hK3 fun _ _ h => h), hMn, hBI, hgd, hlie.2, hgx, hnf1⟩
  have HC4 : Hid (Calls Tryz.prog 6 #[x.v] w3 (CopP x w3)) := Copied_any x w3 N H3.out.1.cin H3.out.1.nn HP.out.2.2.1
  obtain ⟨q0, q1, q2, q3, q4, q5, q6⟩ := H3.out.1.cells
  clear hK3 hgd hlie hbg hMn hn hgx hnf hnf1 hBI hxs HC3
  go_wp2_with fail
  refine HC4.out.mono ?_
  rintro e w4 ⟨x2, rfl, hE2, hI2, hLo2, hK4⟩
  have HC5 : Hid (Calls Tryz.prog 8 #[x2.v] w4 (OfP x2 w4)) := Of_any x2 w4 w4.heap.size hI2 (Nat.le_refl _)
  have H4 : Hid (x.Eqv x2 ∧ Keeps (fun _ => False) w3 w4) := ⟨hE2, hK4⟩
  clear hE2 hI2 hLo2 hK4 HC4 q0 q1 q2 q3 q4 q5 q6
  go_wp2_with fail
  refine HC5.out.mono ?_
  rintro e w5 ⟨hK5, ⟨hm, _⟩ | ⟨hm, b1, b2, F, Gc, T, D, rfl, hLD, hF, hGO⟩⟩
  ·
   exact absurd hm (by rw [(H4.out.1.gd.2 H3.out.2.2.2.2.2.1).fit.1]; decide)
  obtain ⟨Z, hZ⟩ : ∃ Z, Z = rtAt x2 (rtB x2 (16 * x2.kernel)) x2.ps.length / 16 := ⟨_, rfl⟩
  obtain ⟨A, hA⟩ : ∃ A, A = w5.heap.size := ⟨_, rfl⟩
  obtain ⟨K2, hK2'⟩ : ∃ K2, K2 = 16 * x2.kernel := ⟨_, rfl⟩
  obtain ⟨L2, hL2⟩ : ∃ L2, L2 = x2.hs.length := ⟨_, rfl⟩
  obtain ⟨M, hM⟩ : ∃ M, M = x.ps.length := ⟨_, rfl⟩
  have hlen2 : x2.ps.length = M := by rw [H4.out.1.len, hM]
  obtain ⟨W6, hW6⟩ : ∃ W6, W6 = w5.alloc (.cells #[.int .i64 K2, .slice (some ⟨b1, 0, none⟩) M M, .slice (some ⟨b2, 0, none⟩) L2 L2, .int .i64 Z] 37) := ⟨_, rfl⟩
  have hK6 : Keeps (fun _ => False) w3 W6 := by rw [hW6]; exact ((H4.out.2.trans hK5 fun _ _ h => h).alloc _)
  have H6 : Hid (One w x C N W6 ∧ Mn W6 b g n xs ∧ Blk W6 A [.int .i64 K2, .slice (some ⟨b1, 0, none⟩) M M, .slice (some ⟨b2, 0, none⟩) L2 L2, .int .i64 Z] 37 ∧ Blk W6 b1 (row5 (fun i => (F i).vs) M) 42 ∧ (∀ i, i < M → (F i).root = (rtN x1 i : Int)) ∧ M = x.ps.length) := by
   refine ⟨H3.out.1.kept hK6, H3.out.2.1.grown hK6, ?_, ?_, fun i hi => ?_, hM⟩
   ·
    rw [hW6, hA]; exact Blk.new _ _ _
   ·
    have := hLD.p
    rw [hlen2] at this
    rw [hW6]; exact this.alloc _
   ·
    obtain ⟨_, _, _, h4⟩ := hF i (by omega)
    obtain ⟨P', hP', hroot, _⟩ := h4 (by omega)
    have hg2 := H4.out.1.gd.2 H3.out.2.2.2.2.2.1
    rw [hroot, H1.out.1.rtN, ← H4.out.1.rtN, ← (hg2.frame hP').1]
    rfl
  have c5 := H6.out.1.cells.2.2.2.2.2.1
  rw [← hM] at c5
  have a1 := H6.out.2.2.1.cell (i := 1) rfl
  rw [← hZ, hlen2, ← hK2', ← hL2]
  clear hK5 hm hLD hF hGO hZ hK2' hL2 hlen2 hM HC5 hK6
  have hM8 : (M : Int) ≤ 8 := by have := H3.out.2.2.2.2.2.1.ps.2; have := H6.out.2.2.2.2.2; omega
  go_upto_region 5 with fail
  rw [← hW6, ← hA]
  clear hW6 hA
  go_wp2
  clear c5 a1
  go_loopw [10] (fun i wr => ∃ j : Nat, j ≤ M ∧ i = .int .i64 j ∧ Keeps (fun _ => False) W6 wr) (fun i _ => M - (intOf i).toNat)
  case atStart => exact ⟨0, by omega, rfl, Keeps.refl _ _⟩
  case round =>
   obtain ⟨j, hj, rfl, hK⟩ := hrel
   have hOr := H6.out.1.kept hK
   have c5 := hOr.cells.2.2.2.2.2.1
   rw [← H6.out.2.2.2.2.2] at c5
   have a1 := (H6.out.2.2.1.kept hK fun h => h).cell (i := 1) rfl
   by_cases hlt : j < M
   ·
    obtain ⟨P, hP⟩ : ∃ P, x.ps[j]? = some P := ⟨_, List.getElem?_eq_getElem (by have := H6.out.2.2.2.2.2; omega)⟩
    obtain ⟨Q, hQ⟩ : ∃ Q, x1.ps[j]? = some Q := ⟨_, List.getElem?_eq_getElem (by have := H6.out.2.2.2.2.2; have := H1.out.1.len; omega)⟩
    have hrs : Q.rs = P.rs := (H1.out.1.ps j Q P hQ hP).2.2.2.2.2.2.1
    obtain ⟨WS, hWS⟩ : ∃ WS, WS = prg (ps.map Prg.ws) j := ⟨_, rfl⟩
    have hr3 := (H6.out.2.2.2.1.kept hK fun h => h).cell (i := j * 5 + 3) (v := .int .i64 (F j).root) (by rw [row5_get (fun _ => rfl) hlt (by decide)]; rfl)
    rw [H6.out.2.2.2.2.1 j hlt] at hr3
    obtain ⟨RT, hRT⟩ : ∃ RT, RT = rtN x1 j := ⟨_, rfl⟩
    rw [← hRT] at hr3
    have r3 := hr3
    clear hr3
    have HPG : Hid (∀ a : Nat, a < 256 → walkE n xs RT a = (if (findL P.rs a).isSome then 0 else 92) ∧ walkL n xs RT a = leafO a (findL P.rs a) ∧ ∀ z, findL P.rs a = some z → Spc n xs WS RT a z.1) := fun a ha => by
     have h3 := H3.out
     have := boot_page h3.2.2.2.1 h3.2.2.2.2.2.2 h3.2.2.1 hQ a ha
     rw [hrs, ← hWS, ← hRT] at this
     exact this
    have hgap : ∀ a, findL P.rs a = none → WS.length ≤ a * 16 := fun a h => by rw [hWS]; exact boot_gap H3.out.2.2.2.2.1 hQ (by rw [hrs]; exact h)
    have hWl : WS.length ≤ 1024 := by rw [hWS]; exact boot_len H3.out.2.2.2.2.1 hQ
    have HWK : Hid (∀ w', Keeps (fun _ => False) W6 w' → ∀ a : Nat, a < 256 → Calls Tryz.prog 9 #[.pointer (some ⟨b, 0, none⟩), .int .i64 RT, .int .i64 a] w' fun e w'' => e = .returned (.tuple #[(walkL n xs RT a).v, .int .i64 (walkE n xs RT a : Nat)]) ∧ Keeps (fun _ => False) w' w'') := fun w' k a _ => walk_any b g n xs RT a w' (H6.out.2.1.grown k)
    have HLF : Hid (∀ w', Keeps (fun _ => False) W6 w' → ∀ a : Nat, a < 256 → Calls Tryz.prog 10 #[P.v, .int .i64 a] w' fun e w'' => e = .returned (.tuple #[(leafO a (findL P.rs a)).v, .bool (findL P.rs a).isSome]) ∧ Keeps (fun _ => False) w' w'') := fun w' k a ha => by
     have ho := H6.out.1.kept k
     exact leafOf_any P a w' N (ho.cin.pin P (List.mem_of_getElem? hP)) ho.nn ((H3.out.2.2.2.2.2.1.gp j P hP).ok H3.out.2.2.2.2.2.1) ha
    obtain ⟨gp, op, hpa, _⟩ := hOr.cin.pseg.at hP
    have HPA : Hid (x.pa = some ⟨gp, op, none⟩) := hpa
    have HPP : Hid (x.ps[j]? = some P) := hP
    have HK : Hid (Keeps (fun _ => False) W6 wr) := hK
    have hjM : (j : Int) < M := by omega
    have hpl := hOr.cin.plen
    have hpl1 : (M : Int) ≤ x.pc := by have := H6.out.2.2.2.2.2; omega
    have hpl2 : (x.pc : Int) ≤ 9223372036854775807 := by unfold maxLen at hpl; omega
    by_cases hjl : j < L
    ·
     obtain ⟨p, hp⟩ : ∃ p, ps[j]? = some p := ⟨_, List.getElem?_eq_getElem (by have := HL.out; omega)⟩
     have hWp : WS = p.ws := by rw [hWS]; unfold prg; rw [List.getElem?_map, hp]; rfl
     have hP0 := HP.out.1.kept (H6.out.1.keeps.trans hK fun _ _ h => h)
     have HPx : Hid (∀ w', Keeps (fun _ => False) W6 w' → SegW w' p.a WS) := fun w' k => by
      rw [hWp]
      exact ((HP.out.1.kept (H6.out.1.keeps.trans k fun _ _ h => h)).each p (List.mem_of_getElem? hp)).seg
     have hpl0 : WS.length ≤ p.c ∧ p.c ≤ maxLen := by rw [hWp]; exact (hP0.each p (List.mem_of_getElem? hp)).len
     obtain ⟨gq, oq, hqa, hqc⟩ := hP0.seg.at hp
     have s6 := hqc 0 (.slice p.a p.ws.length p.c) rfl
     rw [Nat.mul_one, Nat.add_zero, ← hWp] at s6
     have hjl' : (j : Int) < L := by omega
     obtain ⟨pa2, hpa2⟩ : ∃ pa2, pa2 = p.a := ⟨_, rfl⟩
     obtain ⟨pcap, hpcap⟩ : ∃ pcap, pcap = p.c := ⟨_, rfl⟩
     obtain ⟨pn, hpn⟩ : ∃ pn, pn = WS.length := ⟨_, rfl⟩
     have hp4 : ¬ (4096 : Int) < pn := by omega
     rw [← hpa2, ← hpcap, ← hpn] at s6
     have HSY : Hid (∀ w', Keeps (fun _ => False) W6 w' → ∀ a : Nat, a < 256 → ∀ z, findL P.rs a = some z → Calls Tryz.prog 11 #[.pointer (some ⟨b, 0, none⟩), .int .i64 RT, .int .i64 a, .bool true, .slice pa2 pn pcap] w' fun e w'' => e = .returned (.bool true) ∧ Keeps (fun _ => False) w' w'') := fun w' k a ha z hz => by
      rw [hpa2, hpn, hpcap]
      exact spaced_yes b g n xs RT a z.1 _ WS _ w' (H6.out.2.1.grown k) (HPx.out w' k) hpl0 ha ((HPG.out a ha).2.2 z hz)
     have HSN : Hid (∀ w', ∀ a : Nat, a < 256 → findL P.rs a = none → Calls Tryz.prog 11 #[.pointer (some ⟨b, 0, none⟩), .int .i64 RT, .int .i64 a, .bool false, .slice pa2 pn pcap] w' fun e w'' => e = .returned (.bool true) ∧ Keeps (fun _ => False) w' w'') := fun w' a ha hz => spaced_no b RT a pa2 pn pcap w' ha (by rw [hpn]; exact hgap a hz)
     subst hqa
     clear hP hQ hrs hWS hRT hWl hgap hpa hpl hp hWp hP0 hpl0 hqc hpa2 hpcap hpn hK hOr hj hlt hjl
     go_wp2
     clear r3 c5 a1
     go_loopw [13] (fun i wr => ∃ a : Nat, a ≤ 256 ∧ i = .int .i64 a ∧ Keeps (fun _ => False) W6 wr) (fun i _ => 256 - (intOf i).toNat)
     case atStart => exact ⟨0, by omega, rfl, HK.out⟩
     case round =>
      obtain ⟨a, ha, rfl, hK2⟩ := hrel
      by_cases hlt2 : a < 256
      ·
       have ha' : (a : Int) < 256 := by omega
       cases hz : findL P.rs a with
       | none =>
        have HW : Hid (Calls _ _ _ wr _) := HWK.out wr hK2 a hlt2
        have HLf : Hid (∀ w', Keeps (fun _ => False) wr w' → Calls Tryz.prog 10 #[P.v, .int .i64 a] w' fun e w'' => e = .returned (.tuple #[.agg #[.int .i64 0, .int .i64 0, .int .i64 0], .bool false]) ∧ Keeps (fun _ => False) w' w'') := fun w' k => by
         have h := HLF.out w' (hK2.trans k fun _ _ h => h) a hlt2
         rw [hz] at h
         exact h
        have HSp : Hid (∀ w', Keeps (fun _ => False) wr w' → Calls Tryz.prog 11 #[.pointer (some ⟨b, 0, none⟩), .int .i64 RT, .int .i64 a, .bool false, .slice pa2 pn pcap] w' fun e w'' => e = .returned (.bool true) ∧ Keeps (fun _ => False) w' w'') := fun w' k => HSN.out w' a hlt2 hz
        rw [(HPG.out a hlt2).1, (HPG.out a hlt2).2.1, hz] at HW
        have HW : Hid (Calls Tryz.prog 9 #[.pointer (some ⟨b, 0, none⟩), .int .i64 RT, .int .i64 a] wr fun e w'' => e = .returned (.tuple #[.agg #[.int .i64 0, .int .i64 0, .int .i64 0], .int .i64 92]) ∧ Keeps (fun _ => False) wr w'') := HW.out
        have HK2 : Hid (Keeps (fun _ => False) W6 wr) := hK2
        clear hK2 hz
        go_wp2_with fail
        refine HW.out.mono ?_
        rintro e v1 ⟨rfl, hk1⟩
        obtain ⟨V1, hV1⟩ : ∃ V1, V1 = v1.alloc (.cells #[.int .i64 0, .int .i64 0, .int .i64 0] 45) := ⟨_, rfl⟩
        obtain ⟨B1, hB1⟩ : ∃ B1, B1 = v1.heap.size := ⟨_, rfl⟩
        have hkV : Keeps (fun _ => False) wr V1 := by rw [hV1]; exact hk1.alloc _
        have hBl : Blk V1 B1 [.int .i64 0, .int .i64 0, .int .i64 0] 45 := by rw [hV1, hB1]; exact Blk.new v1 _ 45
        have HV : Hid (Keeps (fun _ => False) wr V1 ∧ Blk V1 B1 [.int .i64 0, .int .i64 0, .int .i64 0] 45) := ⟨hkV, hBl⟩
        clear hk1 hkV hBl HW
        have hO1 := H6.out.1.kept (HK2.out.trans HV.out.1 fun _ _ h => h)
        have c5 := hO1.cells.2.2.2.2.2.1
        rw [← H6.out.2.2.2.2.2, HPA.out] at c5
        obtain ⟨gp', op', hxa', hpc⟩ := hO1.cin.pseg.at HPP.out
        obtain ⟨rfl, rfl⟩ : gp' = gp ∧ op' = op := by
         have e := hxa'.symm.trans HPA.out
         injection e with e
         injection e with e1 e2
         exact ⟨e1, e2⟩
        have p0 := hpc 0 _ rfl
        have p1 := hpc 1 _ rfl
        have p2 := hpc 2 _ rfl
        have p3 := hpc 3 _ rfl
        have p4 := hpc 4 _ rfl
        have p5 := hpc 5 _ rfl
        have p6 := hpc 6 _ rfl
        have p7 := hpc 7 _ rfl
        rw [Nat.add_zero] at p0
        clear hxa' hpc hO1
        go_upto_region 20 with fail
        rw [← hV1, ← hB1]
        clear hV1 hB1
        go_wp2_with fail
        refine (HLf.out _ HV.out.1).mono ?_
        rintro e v2 ⟨rfl, hk2⟩
        obtain ⟨V2, hV2⟩ : ∃ V2, V2 = v2.alloc (.cells #[.int .i64 0, .int .i64 0, .int .i64 0] 45) := ⟨_, rfl⟩
        obtain ⟨B2, hB2⟩ : ∃ B2, B2 = v2.heap.size := ⟨_, rfl⟩
        have hkV2 : Keeps (fun _ => False) V1 V2 := by rw [hV2]; exact hk2.alloc _
        have hBl2 : Blk V2 B2 [.int .i64 0, .int .i64 0, .int .i64 0] 45 := by rw [hV2, hB2]; exact Blk.new v2 _ 45
        have hBl1 : Blk V2 B1 [.int .i64 0, .int .i64 0, .int .i64 0] 45 := HV.out.2.kept hkV2 fun h => h
        have HV2 : Hid (Keeps (fun _ => False) wr V2) := HV.out.1.trans hkV2 fun _ _ h => h
        have s0 := hBl1.cell (i := 0) rfl
        have s1 := hBl1.cell (i := 1) rfl
        have s2 := hBl1.cell (i := 2) rfl
        have t0 := hBl2.cell (i := 0) rfl
        have t1 := hBl2.cell (i := 1) rfl
        have t2 := hBl2.cell (i := 2) rfl
        clear hk2 hkV2 hBl2 hBl1 HLf p0 p1 p2 p3 p4 p5 p6 p7 c5
        go_upto_region 21 with fail
        rw [← hV2, ← hB2]
        clear hV2 hB2
        go_wp2_with fail
        refine (HSp.out _ HV2.out).mono ?_
        rintro e v3 ⟨rfl, hk3⟩
        have HV3 : Hid (Keeps (fun _ => False) W6 v3) := (HK2.out.trans HV2.out fun _ _ h => h).trans hk3 fun _ _ h => h
        clear hk3 HSp s0 s1 s2 t0 t1 t2
        go_wp2
        go_roundw
        case rel => exact ⟨a + 1, by omega, by go_num, HV3.out⟩
        case measure => simp [intOf]; omega
       | some z =>
        obtain ⟨z1, hz1⟩ : ∃ z1, z1 = z.1 := ⟨_, rfl⟩
        obtain ⟨z2, hz2⟩ : ∃ z2, z2 = z.2 := ⟨_, rfl⟩
        have HW : Hid (Calls _ _ _ wr _) := HWK.out wr hK2 a hlt2
        have HLf : Hid (∀ w', Keeps (fun _ => False) wr w' → Calls Tryz.prog 10 #[P.v, .int .i64 a] w' fun e w'' => e = .returned (.tuple #[.agg #[.int .i64 a, .int .i64 z1, .int .i64 z2], .bool true]) ∧ Keeps (fun _ => False) w' w'') := fun w' k => by
         have h := HLF.out w' (hK2.trans k fun _ _ h => h) a hlt2
         rw [hz] at h
         rw [hz1, hz2]
         exact h
        have HSp : Hid (∀ w', Keeps (fun _ => False) wr w' → Calls Tryz.prog 11 #[.pointer (some ⟨b, 0, none⟩), .int .i64 RT, .int .i64 a, .bool true, .slice pa2 pn pcap] w' fun e w'' => e = .returned (.bool true) ∧ Keeps (fun _ => False) w' w'') := fun w' k => by
         have h := HSY.out w' (hK2.trans k fun _ _ h => h) a hlt2 _ hz
         exact h
        rw [(HPG.out a hlt2).1, (HPG.out a hlt2).2.1, hz] at HW
        have HW : Hid (Calls Tryz.prog 9 #[.pointer (some ⟨b, 0, none⟩), .int .i64 RT, .int .i64 a] wr fun e w'' => e = .returned (.tuple #[.agg #[.int .i64 a, .int .i64 z1, .int .i64 z2], .int .i64 0]) ∧ Keeps (fun _ => False) wr w'') := by rw [hz1, hz2]; exact HW.out
        have HK2 : Hid (Keeps (fun _ => False) W6 wr) := hK2
        clear hK2 hz hz1 hz2
        go_wp2_with fail
        refine HW.out.mono ?_
        rintro e v1 ⟨rfl, hk1⟩
        obtain ⟨V1, hV1⟩ : ∃ V1, V1 = v1.alloc (.cells #[.int .i64 a, .int .i64 z1, .int .i64 z2] 45) := ⟨_, rfl⟩
        obtain ⟨B1, hB1⟩ : ∃ B1, B1 = v1.heap.size := ⟨_, rfl⟩
        have hkV : Keeps (fun _ => False) wr V1 := by rw [hV1]; exact hk1.alloc _
        have hBl : Blk V1 B1 [.int .i64 a, .int .i64 z1, .int .i64 z2] 45 := by rw [hV1, hB1]; exact Blk.new v1 _ 45
        have HV : Hid (Keeps (fun _ => False) wr V1 ∧ Blk V1 B1 [.int .i64 a, .int .i64 z1, .int .i64 z2] 45) := ⟨hkV, hBl⟩
        clear hk1 hkV hBl HW
        have hO1 := H6.out.1.kept (HK2.out.trans HV.out.1 fun _ _ h => h)
        have c5 := hO1.cells.2.2.2.2.2.1
        rw [← H6.out.2.2.2.2.2, HPA.out] at c5
        obtain ⟨gp', op', hxa', hpc⟩ := hO1.cin.pseg.at HPP.out
        obtain ⟨rfl, rfl⟩ : gp' = gp ∧ op' = op := by
         have e := hxa'.symm.trans HPA.out
         injection e with e
         injection e with e1 e2
         exact ⟨e1, e2⟩
        have p0 := hpc 0 _ rfl
        have p1 := hpc 1 _ rfl
        have p2 := hpc 2 _ rfl
        have p3 := hpc 3 _ rfl
        have p4 := hpc 4 _ rfl
        have p5 := hpc 5 _ rfl
        have p6 := hpc 6 _ rfl
        have p7 := hpc 7 _ rfl
        rw [Nat.add_zero] at p0
        clear hxa' hpc hO1
        go_upto_region 20 with fail
        rw [← hV1, ← hB1]
        clear hV1 hB1
        go_wp2_with fail
        refine (HLf.out _ HV.out.1).mono ?_
        rintro e v2 ⟨rfl, hk2⟩
        obtain ⟨V2, hV2⟩ : ∃ V2, V2 = v2.alloc (.cells #[.int .i64 a, .int .i64 z1, .int .i64 z2] 45) := ⟨_, rfl⟩
        obtain ⟨B2, hB2⟩ : ∃ B2, B2 = v2.heap.size := ⟨_, rfl⟩
        have hkV2 : Keeps (fun _ => False) V1 V2 := by rw [hV2]; exact hk2.alloc _
        have hBl2 : Blk V2 B2 [.int .i64 a, .int .i64 z1, .int .i64 z2] 45 := by rw [hV2, hB2]; exact Blk.new v2 _ 45
        have hBl1 : Blk V2 B1 [.int .i64 a, .int .i64 z1, .int .i64 z2] 45 := HV.out.2.kept hkV2 fun h => h
        have HV2 : Hid (Keeps (fun _ => False) wr V2) := HV.out.1.trans hkV2 fun _ _ h => h
        have s0 := hBl1.cell (i := 0) rfl
        have s1 := hBl1.cell (i := 1) rfl
        have s2 := hBl1.cell (i := 2) rfl
        have t0 := hBl2.cell (i := 0) rfl
        have t1 := hBl2.cell (i := 1) rfl
        have t2 := hBl2.cell (i := 2) rfl
        clear hk2 hkV2 hBl2 hBl1 HLf p0 p1 p2 p3 p4 p5 p6 p7 c5
        go_upto_region 21 with fail
        rw [← hV2, ← hB2]
        clear hV2 hB2
        go_wp2_with fail
        refine (HSp.out _ HV2.out).mono ?_
        rintro e v3 ⟨rfl, hk3⟩
        have HV3 : Hid (Keeps (fun _ => False) W6 v3) := (HK2.out.trans HV2.out fun _ _ h => h).trans hk3 fun _ _ h => h
        clear hk3 HSp s0 s1 s2 t0 t1 t2
        go_wp2
        go_roundw
        case rel => exact ⟨a + 1, by omega, by go_num, HV3.out⟩
        case measure => simp [intOf]; omega
      ·
       obtain rfl : a = 256 := by omega
       have HK2 : Hid (Keeps (fun _ => False) W6 wr) := hK2
       clear hK2
       go_wp2
       go_roundw
       case rel => exact ⟨j + 1, by omega, by go_num, HK2.out⟩
       case measure => simp [intOf]; omega
    ·
     have hWn : WS = [] := by rw [hWS]; unfold prg; rw [List.getElem?_eq_none (by rw [List.length_map]; have := HL.out; omega)]; rfl
     have HPx : Hid (∀ w', Keeps (fun _ => False) W6 w' → SegW w' none WS) := fun w' k => .inl hWn
     have hpl0 : WS.length ≤ 0 ∧ 0 ≤ maxLen := by rw [hWn]; exact ⟨Nat.le_refl _, Nat.zero_le _⟩
     have hjl' : ¬ (j : Int) < L := by omega
     obtain ⟨pa2, hpa2⟩ : ∃ pa2 : Option Addr, pa2 = none := ⟨_, rfl⟩
     obtain ⟨pcap, hpcap⟩ : ∃ pcap : Nat, pcap = 0 := ⟨_, rfl⟩
     obtain ⟨pn, hpn⟩ : ∃ pn, pn = WS.length := ⟨_, rfl⟩
     have hpn0 : pn = 0 := by rw [hpn, hWn]; rfl
     have HSY : Hid (∀ w', Keeps (fun _ => False) W6 w' → ∀ a : Nat, a < 256 → ∀ z, findL P.rs a = some z → Calls Tryz.prog 11 #[.pointer (some ⟨b, 0, none⟩), .int .i64 RT, .int .i64 a, .bool true, .slice pa2 pn pcap] w' fun e w'' => e = .returned (.bool true) ∧ Keeps (fun _ => False) w' w'') := fun w' k a ha z hz => by
      rw [hpa2, hpn, hpcap]
      exact spaced_yes b g n xs RT a z.1 _ WS _ w' (H6.out.2.1.grown k) (HPx.out w' k) hpl0 ha ((HPG.out a ha).2.2 z hz)
     have HSN : Hid (∀ w', ∀ a : Nat, a < 256 → findL P.rs a = none → Calls Tryz.prog 11 #[.pointer (some ⟨b, 0, none⟩), .int .i64 RT, .int .i64 a, .bool false, .slice pa2 pn pcap] w' fun e w'' => e = .returned (.bool true) ∧ Keeps (fun _ => False) w' w'') := fun w' a ha hz => spaced_no b RT a pa2 pn pcap w' ha (by rw [hpn]; exact hgap a hz)
     subst hpa2 hpcap hpn0
     clear hP hQ hrs hWS hRT hWl hgap hpa hpl hWn hpl0 hpn hK hOr hj hlt hjl
     go_wp2
     clear r3 c5 a1
     go_loopw [13] (fun i wr => ∃ a : Nat, a ≤ 256 ∧ i = .int .i64 a ∧ Keeps (fun _ => False) W6 wr) (fun i _ => 256 - (intOf i).toNat)
     case atStart => exact ⟨0, by omega, rfl, HK.out⟩
     case round =>
      obtain ⟨a, ha, rfl, hK2⟩ := hrel
      by_cases hlt2 : a < 256
      ·
       have ha' : (a : Int) < 256 := by omega
       cases hz : findL P.rs a with
       | none =>
        have HW : Hid (Calls _ _ _ wr _) := HWK.out wr hK2 a hlt2
        have HLf : Hid (∀ w', Keeps (fun _ => False) wr w' → Calls Tryz.prog 10 #[P.v, .int .i64 a] w' fun e w'' => e = .returned (.tuple #[.agg #[.int .i64 0, .int .i64 0, .int .i64 0], .bool false]) ∧ Keeps (fun _ => False) w' w'') := fun w' k => by
         have h := HLF.out w' (hK2.trans k fun _ _ h => h) a hlt2
         rw [hz] at h
         exact h
        have HSp : Hid (∀ w', Keeps (fun _ => False) wr w' → Calls Tryz.prog 11 #[.pointer (some ⟨b, 0, none⟩), .int .i64 RT, .int .i64 a, .bool false, .slice none 0 0] w' fun e w'' => e = .returned (.bool true) ∧ Keeps (fun _ => False) w' w'') := fun w' k => HSN.out w' a hlt2 hz
        rw [(HPG.out a hlt2).1, (HPG.out a hlt2).2.1, hz] at HW
        have HW : Hid (Calls Tryz.prog 9 #[.pointer (some ⟨b, 0, none⟩), .int .i64 RT, .int .i64 a] wr fun e w'' => e = .returned (.tuple #[.agg #[.int .i64 0, .int .i64 0, .int .i64 0], .int .i64 92]) ∧ Keeps (fun _ => False) wr w'') := HW.out
        have HK2 : Hid (Keeps (fun _ => False) W6 wr) := hK2
        clear hK2 hz
        go_wp2_with fail
        refine HW.out.mono ?_
        rintro e v1 ⟨rfl, hk1⟩
        obtain ⟨V1, hV1⟩ : ∃ V1, V1 = v1.alloc (.cells #[.int .i64 0, .int .i64 0, .int .i64 0] 45) := ⟨_, rfl⟩
        obtain ⟨B1, hB1⟩ : ∃ B1, B1 = v1.heap.size := ⟨_, rfl⟩
        have hkV : Keeps (fun _ => False) wr V1 := by rw [hV1]; exact hk1.alloc _
        have hBl : Blk V1 B1 [.int .i64 0, .int .i64 0, .int .i64 0] 45 := by rw [hV1, hB1]; exact Blk.new v1 _ 45
        have HV : Hid (Keeps (fun _ => False) wr V1 ∧ Blk V1 B1 [.int .i64 0, .int .i64 0, .int .i64 0] 45) := ⟨hkV, hBl⟩
        clear hk1 hkV hBl HW
        have hO1 := H6.out.1.kept (HK2.out.trans HV.out.1 fun _ _ h => h)
        have c5 := hO1.cells.2.2.2.2.2.1
        rw [← H6.out.2.2.2.2.2, HPA.out] at c5
        obtain ⟨gp', op', hxa', hpc⟩ := hO1.cin.pseg.at HPP.out
        obtain ⟨rfl, rfl⟩ : gp' = gp ∧ op' = op := by
         have e := hxa'.symm.trans HPA.out
         injection e with e
         injection e with e1 e2
         exact ⟨e1, e2⟩
        have p0 := hpc 0 _ rfl
        have p1 := hpc 1 _ rfl
        have p2 := hpc 2 _ rfl
        have p3 := hpc 3 _ rfl
        have p4 := hpc 4 _ rfl
        have p5 := hpc 5 _ rfl
        have p6 := hpc 6 _ rfl
        have p7 := hpc 7 _ rfl
        rw [Nat.add_zero] at p0
        clear hxa' hpc hO1
        go_upto_region 20 with fail
        rw [← hV1, ← hB1]
        clear hV1 hB1
        go_wp2_with fail
        refine (HLf.out _ HV.out.1).mono ?_
        rintro e v2 ⟨rfl, hk2⟩
        obtain ⟨V2, hV2⟩ : ∃ V2, V2 = v2.alloc (.cells #[.int .i64 0, .int .i64 0, .int .i64 0] 45) := ⟨_, rfl⟩
        obtain ⟨B2, hB2⟩ : ∃ B2, B2 = v2.heap.size := ⟨_, rfl⟩
        have hkV2 : Keeps (fun _ => False) V1 V2 := by rw [hV2]; exact hk2.alloc _
        have hBl2 : Blk V2 B2 [.int .i64 0, .int .i64 0, .int .i64 0] 45 := by rw [hV2, hB2]; exact Blk.new v2 _ 45
        have hBl1 : Blk V2 B1 [.int .i64 0, .int .i64 0, .int .i64 0] 45 := HV.out.2.kept hkV2 fun h => h
        have HV2 : Hid (Keeps (fun _ => False) wr V2) := HV.out.1.trans hkV2 fun _ _ h => h
        have s0 := hBl1.cell (i := 0) rfl
        have s1 := hBl1.cell (i := 1) rfl
        have s2 := hBl1.cell (i := 2) rfl
        have t0 := hBl2.cell (i := 0) rfl
        have t1 := hBl2.cell (i := 1) rfl
        have t2 := hBl2.cell (i := 2) rfl
        clear hk2 hkV2 hBl2 hBl1 HLf p0 p1 p2 p3 p4 p5 p6 p7 c5
        go_upto_region 21 with fail
        rw [← hV2, ← hB2]
        clear hV2 hB2
        go_wp2_with fail
        refine (HSp.out _ HV2.out).mono ?_
        rintro e v3 ⟨rfl, hk3⟩
        have HV3 : Hid (Keeps (fun _ => False) W6 v3) := (HK2.out.trans HV2.out fun _ _ h => h).trans hk3 fun _ _ h => h
        clear hk3 HSp s0 s1 s2 t0 t1 t2
        go_wp2
        go_roundw
        case rel => exact ⟨a + 1, by omega, by go_num, HV3.out⟩
        case measure => simp [intOf]; omega
       | some z =>
        obtain ⟨z1, hz1⟩ : ∃ z1, z1 = z.1 := ⟨_, rfl⟩
        obtain ⟨z2, hz2⟩ : ∃ z2, z2 = z.2 := ⟨_, rfl⟩
        have HW : Hid (Calls _ _ _ wr _) := HWK.out wr hK2 a hlt2
        have HLf : Hid (∀ w', Keeps (fun _ => False) wr w' → Calls Tryz.prog 10 #[P.v, .int .i64 a] w' fun e w'' => e = .returned (.tuple #[.agg #[.int .i64 a, .int .i64 z1, .int .i64 z2], .bool true]) ∧ Keeps (fun _ => False) w' w'') := fun w' k => by
         have h := HLF.out w' (hK2.trans k fun _ _ h => h) a hlt2
         rw [hz] at h
         rw [hz1, hz2]
         exact h
        have HSp : Hid (∀ w', Keeps (fun _ => False) wr w' → Calls Tryz.prog 11 #[.pointer (some ⟨b, 0, none⟩), .int .i64 RT, .int .i64 a, .bool true, .slice none 0 0] w' fun e w'' => e = .returned (.bool true) ∧ Keeps (fun _ => False) w' w'') := fun w' k => by
         have h := HSY.out w' (hK2.trans k fun _ _ h => h) a hlt2 _ hz
         exact h
        rw [(HPG.out a hlt2).1, (HPG.out a hlt2).2.1, hz] at HW
        have HW : Hid (Calls Tryz.prog 9 #[.pointer (some ⟨b, 0, none⟩), .int .i64 RT, .int .i64 a] wr fun e w'' => e = .returned (.tuple #[.agg #[.int .i64 a, .int .i64 z1, .int .i64 z2], .int .i64 0]) ∧ Keeps (fun _ => False) wr w'') := by rw [hz1, hz2]; exact HW.out
        have HK2 : Hid (Keeps (fun _ => False) W6 wr) := hK2
        clear hK2 hz hz1 hz2
        go_wp2_with fail
        refine HW.out.mono ?_
        rintro e v1 ⟨rfl, hk1⟩
        obtain ⟨V1, hV1⟩ : ∃ V1, V1 = v1.alloc (.cells #[.int .i64 a, .int .i64 z1, .int .i64 z2] 45) := ⟨_, rfl⟩
        obtain ⟨B1, hB1⟩ : ∃ B1, B1 = v1.heap.size := ⟨_, rfl⟩
        have hkV : Keeps (fun _ => False) wr V1 := by rw [hV1]; exact hk1.alloc _
        have hBl : Blk V1 B1 [.int .i64 a, .int .i64 z1, .int .i64 z2] 45 := by rw [hV1, hB1]; exact Blk.new v1 _ 45
        have HV : Hid (Keeps (fun _ => False) wr V1 ∧ Blk V1 B1 [.int .i64 a, .int .i64 z1, .int .i64 z2] 45) := ⟨hkV, hBl⟩
        clear hk1 hkV hBl HW
        have hO1 := H6.out.1.kept (HK2.out.trans HV.out.1 fun _ _ h => h)
        have c5 := hO1.cells.2.2.2.2.2.1
        rw [← H6.out.2.2.2.2.2, HPA.out] at c5
        obtain ⟨gp', op', hxa', hpc⟩ := hO1.cin.pseg.at HPP.out
        obtain ⟨rfl, rfl⟩ : gp' = gp ∧ op' = op := by
         have e := hxa'.symm.trans HPA.out
         injection e with e
         injection e with e1 e2
         exact ⟨e1, e2⟩
        have p0 := hpc 0 _ rfl
        have p1 := hpc 1 _ rfl
        have p2 := hpc 2 _ rfl
        have p3 := hpc 3 _ rfl
        have p4 := hpc 4 _ rfl
        have p5 := hpc 5 _ rfl
        have p6 := hpc 6 _ rfl
        have p7 := hpc 7 _ rfl
        rw [Nat.add_zero] at p0
        clear hxa' hpc hO1
        go_upto_region 20 with fail
        rw [← hV1, ← hB1]
        clear hV1 hB1
        go_wp2_with fail
        refine (HLf.out _ HV.out.1).mono ?_
        rintro e v2 ⟨rfl, hk2⟩
        obtain ⟨V2, hV2⟩ : ∃ V2, V2 = v2.alloc (.cells #[.int .i64 a, .int .i64 z1, .int .i64 z2] 45) := ⟨_, rfl⟩
        obtain ⟨B2, hB2⟩ : ∃ B2, B2 = v2.heap.size := ⟨_, rfl⟩
        have hkV2 : Keeps (fun _ => False) V1 V2 := by rw [hV2]; exact hk2.alloc _
        have hBl2 : Blk V2 B2 [.int .i64 a, .int .i64 z1, .int .i64 z2] 45 := by rw [hV2, hB2]; exact Blk.new v2 _ 45
        have hBl1 : Blk V2 B1 [.int .i64 a, .int .i64 z1, .int .i64 z2] 45 := HV.out.2.kept hkV2 fun h => h
        have HV2 : Hid (Keeps (fun _ => False) wr V2) := HV.out.1.trans hkV2 fun _ _ h => h
        have s0 := hBl1.cell (i := 0) rfl
        have s1 := hBl1.cell (i := 1) rfl
        have s2 := hBl1.cell (i := 2) rfl
        have t0 := hBl2.cell (i := 0) rfl
        have t1 := hBl2.cell (i := 1) rfl
        have t2 := hBl2.cell (i := 2) rfl
        clear hk2 hkV2 hBl2 hBl1 HLf p0 p1 p2 p3 p4 p5 p6 p7 c5
        go_upto_region 21 with fail
        rw [← hV2, ← hB2]
        clear hV2 hB2
        go_wp2_with fail
        refine (HSp.out _ HV2.out).mono ?_
        rintro e v3 ⟨rfl, hk3⟩
        have HV3 : Hid (Keeps (fun _ => False) W6 v3) := (HK2.out.trans HV2.out fun _ _ h => h).trans hk3 fun _ _ h => h
        clear hk3 HSp s0 s1 s2 t0 t1 t2
        go_wp2
        go_roundw
        case rel => exact ⟨a + 1, by omega, by go_num, HV3.out⟩
        case measure => simp [intOf]; omega
      ·
       obtain rfl : a = 256 := by omega
       have HK2 : Hid (Keeps (fun _ => False) W6 wr) := hK2
       clear hK2
       go_wp2
       go_roundw
       case rel => exact ⟨j + 1, by omega, by go_num, HK2.out⟩
       case measure => simp [intOf]; omega
   ·
    obtain rfl : j = M := by omega
    have HK : Hid (Keeps (fun _ => False) w wr) := H6.out.1.keeps.trans hK fun _ _ h => h
    clear hK hOr
    go_wp2
    go_ret
    exact ⟨rfl, HK.out⟩
end Go.Proofs.YtglhfijgnfignaaGreat
