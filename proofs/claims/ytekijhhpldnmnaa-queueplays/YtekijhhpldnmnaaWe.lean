import Derived.Test.YtekijhhpldnmnaaWd
namespace Go.Proofs.Ytekijhhpldnmnaa
open Go.RowKit
set_option linter.unusedVariables false
set_option linter.unusedSimpArgs false

theorem segR_congr {w : World} {a : Option Addr} {n d : Nat} {rs ss : List Rr} (h : SegR w a n d rs) (hl : rs.length = ss.length) (he : ∀ (i : Nat) (r s : Rr), rs[i]? = some r → ss[i]? = some s → r.p = s.p ∧ r.h = s.h ∧ r.G = s.G ∧ r.l.length = s.l.length) : SegR w a n d ss := by
  rcases h with h | ⟨g, o, ha, hc⟩
  · left
    rw [h] at hl
    exact List.eq_nil_of_length_eq_zero (by simpa using hl.symm)
  · refine .inr ⟨g, o, ha, fun j s hs => ?_⟩
    have hj : j < rs.length := by rw [hl]; exact (List.getElem?_eq_some_iff.1 hs).1
    obtain ⟨q1, q2, q3, q4⟩ := he j _ s (List.getElem?_eq_getElem hj) hs
    have := hc j _ (List.getElem?_eq_getElem hj)
    unfold RrAt at *
    rw [← q1, ← q2, ← q3, ← q4]
    exact this

/-- The ports behind so many messages. -/
def psN (n d : Nat) (rs : List Rr) (ms : List (List UInt32)) : List Pr := rs.map fun r => ⟨r.p, r.G, bringN d (rd 3 n d r.l) ms⟩
theorem psN_length (n d : Nat) (rs : List Rr) (ms : List (List UInt32)) : (psN n d rs ms).length = rs.length := by simp [psN]
theorem psN_get {n d : Nat} {rs : List Rr} {ms : List (List UInt32)} {i : Nat} {t : Pr} (h : (psN n d rs ms)[i]? = some t) : ∃ r, rs[i]? = some r ∧ t = ⟨r.p, r.G, bringN d (rd 3 n d r.l) ms⟩ := by
  unfold psN at h
  rw [List.getElem?_map] at h
  cases hr : rs[i]? with
  | none => rw [hr] at h; cases h
  | some r => rw [hr] at h; cases h; exact ⟨r, rfl, rfl⟩
theorem psN_mem {n d : Nat} {rs : List Rr} {ms : List (List UInt32)} {t : Pr} (h : t ∈ psN n d rs ms) : ∃ r ∈ rs, t = ⟨r.p, r.G, bringN d (rd 3 n d r.l) ms⟩ := by
  obtain ⟨r, hr, rfl⟩ := List.mem_map.1 h
  exact ⟨r, hr, rfl⟩

theorem fold_ports (xs : List UInt32) (M : Nat) (F : List UInt32 → List UInt32) (rs : List Rr) (ports : List Int) (hl : rs.length = ports.length) (he : ∀ (i : Nat) (r : Rr) (q : Int), rs[i]? = some r → ports[i]? = some q → r.p = q.toNat ∧ r.l = win xs q.toNat M) (ys : List UInt32) :
    rs.foldl (fun ys r => lay ys r.p (F r.l)) ys = ports.foldl (fun ys q => lay ys q.toNat (F (win xs q.toNat M))) ys := by
  induction rs generalizing ports ys with
  | nil =>
    cases ports with
    | nil => rfl
    | cons q ports => simp at hl
  | cons r rs ih =>
    cases ports with
    | nil => simp at hl
    | cons q ports =>
      obtain ⟨h1, h2⟩ := he 0 r q rfl rfl
      rw [List.foldl_cons, List.foldl_cons, h1, h2]
      exact ih ports (by simpa using hl) (fun i r q a b => he (i + 1) r q a b) _

/-- What the ports and the stage are when they are laid back. -/
structure DvI (w wr : World) (n d : Nat) (rs : List Rr) (ms : List (List UInt32)) : Prop where
  each : ∀ r ∈ rs, Rb wr r.G 3 n d (enc 3 n d (bringN d (rd 3 n d r.l) ms))
  k : Keeps (fun k => ∃ r ∈ rs, k = r.G) w wr

set_option maxRecDepth 20000 in
set_option maxHeartbeats 4000000 in
theorem deliver_done (b g : Nat) (xs : List UInt32) (p n d : Nat) (a : Option Addr) (c : Nat) (ports : List Int) (w : World) (hm : Mm w b g xs) (he : fitE false n d = 0) (hk : ports.length ≤ 4) (hi : p + rsz 1 n d ≤ xs.length) (hs : SegI w a ports) (hpp : ∀ q ∈ ports, q ≤ 9223372036854775807) (hn : ∀ q ∈ ports, 0 ≤ q ∧ q + (rsz 3 n d : Int) ≤ xs.length) (hr : rightB 1 n d (win xs p (rsz 1 n d)) = true) (hr3 : ∀ q ∈ ports, rightB 3 n d (win xs q.toNat (rsz 3 n d)) = true) :
    Calls Try.prog 17 #[.pointer (some ⟨b, 0, none⟩), .int .i64 p, .int .i64 n, .int .i64 d, .slice a ports.length c] w fun e w' => e = .returned (.int .i64 0) ∧ Mm w' b g (dlX xs p n d ports) ∧ Keeps (· = g) w w' := by
  have HN : Hid (∀ q ∈ ports, 0 ≤ q ∧ q + (rsz 3 n d : Int) ≤ xs.length) := hn
  have HR3 : Hid (∀ q ∈ ports, rightB 3 n d (win xs q.toNat (rsz 3 n d)) = true) := hr3
  have HI : Hid (p + rsz 1 n d ≤ xs.length) := hi
  obtain ⟨XF, hXF⟩ : ∃ XF, XF = dlX xs p n d ports := ⟨_, rfl⟩
  rw [← hXF]
  have HXF : Hid (XF = dlX xs p n d ports) := hXF
  clear hXF
  have HF : Hid (Calls Try.prog 38 #[.pointer (some ⟨b, 0, none⟩), .int .i64 n, .int .i64 d] w fun e w' => e = .returned (.int .i64 0) ∧ w' = w) := by
    have q := fits_any false b n d w
    rw [he] at q
    exact q
  have HC : Hid (Calls Try.prog 44 #[.pointer (some ⟨b, 0, none⟩), .int .i64 p, .int .i64 1, .int .i64 n, .int .i64 d] w fun e w' => ∃ G, w.heap.size ≤ G ∧ e = .returned (.tuple #[.agg #[.int .i64 p, .int .i64 1, .int .i64 n, .int .i64 d, .slice (some ⟨G, 0, none⟩) (rsz 1 n d) (rsz 1 n d)], .int .i64 0]) ∧ Rb w' G 1 n d (win xs p (rsz 1 n d)) ∧ Keeps (fun _ => False) w w') := take_ok b g xs p 1 n d w hm (.inl rfl) he hi
  have hwl := win_length xs p (rsz 1 n d) hi
  obtain ⟨l, hl⟩ : ∃ l, l = win xs p (rsz 1 n d) := ⟨_, rfl⟩
  obtain ⟨M, hM⟩ : ∃ M, M = rsz 1 n d := ⟨_, rfl⟩
  rw [← hl] at HC hwl hr
  rw [← hM] at HC hwl
  have HL : Hid (M = l.length ∧ l = win xs p (rsz 1 n d) ∧ M = rsz 1 n d) := ⟨hwl.symm, hl, hM⟩
  have HRF : Hid (rightB 1 n d l = true) := hr
  obtain ⟨K, hK⟩ : ∃ K, K = ports.length := ⟨_, rfl⟩
  have HP : Hid (∀ W3, Keeps (fun _ => False) w W3 → Calls Try.prog 45 #[.pointer (some ⟨b, 0, none⟩), .int .i64 n, .int .i64 d, .slice a K c] W3 fun e w' => TpP W3 xs n d ports e w') := fun W3 k => by
    rw [hK]; exact takePorts_any b g xs n d a c ports W3 (hm.kept k (fun e => e) (fun e => e)) he (hs.kept k fun _ _ e => e) (by omega) hpp
  have HM : Hid (Mm w b g xs ∧ ports.length ≤ 4 ∧ K = ports.length ∧ fitE false n d = 0) := ⟨hm, hk, hK, he⟩
  rw [← hK] at hk ⊢
  have hk2 : ¬ (4 : Int) < (K : Int) := by omega
  clear he hk hm hpp hi hs hl hM hwl hK hn hr hr3
  go_enter Try.func17, Try.ntmps17
  go_wp2_with fail
  refine HF.out.mono ?_
  rintro e w1 ⟨rfl, hw⟩
  obtain rfl := hw.symm
  clear hw HF
  go_wp2_with fail
  refine HC.out.mono ?_
  rintro e w2 ⟨G, hG, rfl, hR, hk2q⟩
  obtain ⟨W3, hW3⟩ : ∃ W3, W3 = w2.alloc (.cells #[.int .i64 p, .int .i64 1, .int .i64 n, .int .i64 d, .slice (some ⟨G, 0, none⟩) M M] 75) := ⟨_, rfl⟩
  have hk3 : Keeps (fun _ => False) w2 W3 := by rw [hW3]; exact (Keeps.refl _ w2).alloc _
  have hb3 : Blk W3 w2.heap.size (#[.int .i64 p, .int .i64 1, .int .i64 n, .int .i64 d, .slice (some ⟨G, 0, none⟩) M M] : Array Value).toList 75 := by rw [hW3]; exact Blk.new w2 _ 75
  have HB3 : Hid (W3 = w2.alloc (.cells #[.int .i64 p, .int .i64 1, .int .i64 n, .int .i64 d, .slice (some ⟨G, 0, none⟩) M M] 75) ∧ Keeps (fun _ => False) w W3 ∧ Rb W3 G 1 n d l ∧ w.heap.size ≤ G ∧ G < w2.heap.size ∧ W3.heap.size = w2.heap.size + 1) := ⟨hW3, hk2q.trans hk3 fun _ _ e => e, hR.grown hk3, hG, hR.blk.lt, by rw [hW3]; simp⟩
  obtain ⟨Q, hQ⟩ : ∃ Q, Q = w2.heap.size := ⟨_, rfl⟩
  rw [← hQ] at hb3
  have HQ : Hid (Q = w2.heap.size ∧ Blk W3 Q (#[.int .i64 p, .int .i64 1, .int .i64 n, .int .i64 d, .slice (some ⟨G, 0, none⟩) M M] : Array Value).toList 75) := ⟨hQ, hb3⟩
  have HPC : Hid (Calls _ _ _ _ _) := HP.out W3 HB3.out.2.1
  clear hW3 hk3 hb3 hQ hG hR hk2q HC HP
  go_wp2_with fail
  rw [← HB3.out.1, ← HQ.out.1]
  refine HPC.out.mono ?_
  clear HPC
  rintro e w4 (⟨_, v, rs, hrl, rfl, hT⟩ | ⟨h1, _⟩)
  case inr => exact absurd HN.out h1
  obtain ⟨av, cv, hav, hsg, hao⟩ := segR_of_owns hT.own
  subst hav
  have hb4 := HQ.out.2.kept hT.k fun e => e
  have e0 : w4.cell? ⟨Q, 0, none⟩ = some (.int .i64 p) := hb4.cell rfl
  have e1 : w4.cell? ⟨Q, 1, none⟩ = some (.int .i64 1) := hb4.cell rfl
  have e2 : w4.cell? ⟨Q, 2, none⟩ = some (.int .i64 n) := hb4.cell rfl
  have e3 : w4.cell? ⟨Q, 3, none⟩ = some (.int .i64 d) := hb4.cell rfl
  have e4 : w4.cell? ⟨Q, 4, none⟩ = some (.slice (some ⟨G, 0, none⟩) M M) := hb4.cell rfl
  have hone := segR_one (w := w4) n d ⟨p, 1, G, l⟩
  have hvs : ((⟨p, 1, G, l⟩ : Rr).vs n d).toArray = #[.int .i64 p, .int .i64 1, .int .i64 n, .int .i64 d, .slice (some ⟨G, 0, none⟩) M M] := by
    unfold Rr.vs
    simp only [← HL.out.1]
    rfl
  rw [hvs] at hone
  obtain ⟨W5, hW5⟩ : ∃ W5, W5 = w4.alloc (.cells #[.int .i64 p, .int .i64 1, .int .i64 n, .int .i64 d, .slice (some ⟨G, 0, none⟩) M M] 75) := ⟨_, rfl⟩
  rw [← hW5] at hone
  have hk5 : Keeps (fun _ => False) w4 W5 := by rw [hW5]; exact (Keeps.refl _ w4).alloc _
  have hk35 : Keeps (fun _ => False) W3 W5 := hT.k.trans hk5 fun _ _ e => e
  have hRS := allRight_any _ 1 n d [⟨p, 1, G, l⟩] W5 hone (fun r hr => by simp at hr; subst hr; exact HB3.out.2.2.1.grown hk35) (by simp)
  have e5 : ([⟨p, 1, G, l⟩] : List Rr).all (fun r => rightB r.h n d r.l) = rightB 1 n d l := by simp
  rw [e5] at hRS
  rw [HRF.out] at hRS
  have HRS : Hid (Calls Try.prog 46 #[.slice (some ⟨w4.heap.size, 0, none⟩) 1 1] W5 fun e w' => e = .returned (.bool true) ∧ Keeps (fun _ => False) W5 w') := hRS
  have H5 : Hid (W5 = w4.alloc (.cells #[.int .i64 p, .int .i64 1, .int .i64 n, .int .i64 d, .slice (some ⟨G, 0, none⟩) M M] 75) ∧ Keeps (fun _ => False) w W5 ∧ Keeps (fun _ => False) w4 W5) := ⟨hW5, HB3.out.2.1.trans hk35 fun _ _ e => e, hk5⟩
  have HT : Hid (TpI W3 w4 (.slice av rs.length cv) xs n d ports rs ∧ SegR w4 av n d rs ∧ (∀ x, av = some x → Value.ownBlock (.slice av rs.length cv) = some x.block) ∧ rs.length = ports.length) := ⟨hT, hsg, hao, hrl⟩
  have HAR : Hid (∀ w6, Keeps (fun _ => False) w4 w6 → Calls Try.prog 46 #[.slice av rs.length cv] w6 fun e w' => e = .returned (.bool (rs.all fun r => rightB r.h n d r.l)) ∧ Keeps (fun _ => False) w6 w') := fun w6 k6 => by
    exact allRight_any av cv n d rs w6 (hsg.grown k6) (fun r hr => by
      obtain ⟨i, hi, rfl⟩ := List.getElem_of_mem hr
      obtain ⟨e1, _, e3, _⟩ := hT.each i _ (List.getElem?_eq_getElem hi)
      rw [e1]; exact e3.grown k6) (by have := HM.out.2.1; omega)
  have hb5 := hb4.kept hk5 fun e => e
  clear e0 e1 e2 e3 e4
  have e0 : w4.cell? ⟨Q, 0, none⟩ = some (.int .i64 p) := hb4.cell rfl
  have e1 : w4.cell? ⟨Q, 1, none⟩ = some (.int .i64 1) := hb4.cell rfl
  have e2 : w4.cell? ⟨Q, 2, none⟩ = some (.int .i64 n) := hb4.cell rfl
  have e3 : w4.cell? ⟨Q, 3, none⟩ = some (.int .i64 d) := hb4.cell rfl
  have e4 : w4.cell? ⟨Q, 4, none⟩ = some (.slice (some ⟨G, 0, none⟩) M M) := hb4.cell rfl
  have HQ5 : Hid (Blk W5 Q (#[.int .i64 p, .int .i64 1, .int .i64 n, .int .i64 d, .slice (some ⟨G, 0, none⟩) M M] : Array Value).toList 75) := hb5
  clear hRS hone hvs hW5 hk5 hk35 hb4 hsg hao hT hrl hb5 e5
  obtain ⟨R, hRl⟩ : ∃ R, R = rs.length := ⟨_, rfl⟩
  rw [← hRl] at HT HAR ⊢
  have HRl : Hid (R = rs.length) := hRl
  clear hRl
  go_wp2_with fail
  rw [← H5.out.1]
  refine HRS.out.mono ?_
  rintro e w6 ⟨rfl, hk6⟩
  have hb6 := HQ5.out.kept hk6 fun e => e
  have hk46 := H5.out.2.2.trans hk6 fun _ _ e => e
  clear e0 e1 e2 e3 e4
  have e0 : w6.cell? ⟨Q, 0, none⟩ = some (.int .i64 p) := hb6.cell rfl
  have e1 : w6.cell? ⟨Q, 1, none⟩ = some (.int .i64 1) := hb6.cell rfl
  have e2 : w6.cell? ⟨Q, 2, none⟩ = some (.int .i64 n) := hb6.cell rfl
  have e3 : w6.cell? ⟨Q, 3, none⟩ = some (.int .i64 d) := hb6.cell rfl
  have e4 : w6.cell? ⟨Q, 4, none⟩ = some (.slice (some ⟨G, 0, none⟩) M M) := hb6.cell rfl
  have HAR6 : Hid (Calls _ _ _ _ _) := HAR.out w6 hk46
  have H6 : Hid (Keeps (fun _ => False) w w6 ∧ Keeps (fun _ => False) w4 w6 ∧ Blk w6 Q (#[.int .i64 p, .int .i64 1, .int .i64 n, .int .i64 d, .slice (some ⟨G, 0, none⟩) M M] : Array Value).toList 75) := ⟨H5.out.2.1.trans hk6 fun _ _ e => e, hk46, hb6⟩
  clear hk6 hb6 hk46 HRS HAR HQ5
  -- what is known of every port
  have HRS3 : Hid (∀ r ∈ rs, r.h = 3 ∧ rightB 3 n d r.l = true ∧ Rb w4 r.G 3 n d r.l ∧ W3.heap.size ≤ r.G ∧ (∀ x, av = some x → x.block ≠ r.G) ∧ ∃ q ∈ ports, r.p = q.toNat ∧ r.l = win xs q.toNat (rsz 3 n d) ∧ r.p + rsz 3 n d ≤ xs.length) := fun r hr => by
    obtain ⟨i, hi, rfl⟩ := List.getElem_of_mem hr
    obtain ⟨e1, ⟨q, hq2, e2, e3, e4, e5⟩, e6, e7, e8⟩ := HT.out.1.each i _ (List.getElem?_eq_getElem hi)
    have hqm := List.mem_of_getElem? hq2
    exact ⟨e1, by rw [e5]; exact HR3.out q hqm, e6, e7, fun x hx => e8 x.block (HT.out.2.2.1 x hx), q, hqm, e4, e5, by rw [e4]; omega⟩
  have HAB : Hid ((rs.all fun r => rightB r.h n d r.l) = true) := List.all_eq_true.2 fun r hr => by
    obtain ⟨e1, e2, _⟩ := HRS3.out r hr
    rw [e1]; exact e2
  rw [HAB.out] at HAR6
  clear HAB
  -- the stage
  have hl1 : l.length = 1 + d * (1 + n) := HB3.out.2.2.1.len
  have hd1 := HB3.out.2.2.1.d1
  have hd2 := HB3.out.2.2.1.d2
  have hn1 := HB3.out.2.2.1.n1
  have hn2 := HB3.out.2.2.1.n2
  have hOk := rd_ok (.inl rfl) hl1 HRF.out
  have hEnc := enc_rd (.inl rfl) hl1 hd1 HRF.out
  obtain ⟨s, hs⟩ : ∃ s, s = rd 1 n d l := ⟨_, rfl⟩
  rw [← hs] at hOk hEnc
  obtain ⟨C, hC⟩ : ∃ C, C = s.ms.length := ⟨_, rfl⟩
  have hcnt : cntW 1 l = C := by rw [← hEnc, cnt_enc (.inl rfl) hOk hd2, hC]
  have hfst : fstW 1 l < d := by rw [← hEnc, fst_enc (.inl rfl) hOk hd2]; exact hOk.f
  have HZ : Hid (∀ w7, Keeps (fun _ => False) w6 w7 → Calls Try.prog 47 #[.agg #[.int .i64 p, .int .i64 1, .int .i64 n, .int .i64 d, .slice (some ⟨G, 0, none⟩) M M]] w7 fun e w' => e = .returned (.int .i64 C) ∧ Keeps (fun _ => False) w7 w') := fun w7 k7 => by
    have q := size_any p G 1 n d M l w7 (((HB3.out.2.2.1.grown HT.out.1.k).grown H6.out.2.1).grown k7) HL.out.1
    rw [hcnt] at q
    exact q
  have HMS : Hid (∀ (wr : World) (j : Nat) (m : List UInt32), Rb wr G 1 n d l → s.ms[j]? = some m → (1 ≤ m.length ∧ m.length ≤ n) ∧ Calls Try.prog 49 #[.agg #[.int .i64 p, .int .i64 1, .int .i64 n, .int .i64 d, .slice (some ⟨G, 0, none⟩) M M], .int .i64 j] wr fun e w' => ∃ B, wr.heap.size ≤ B ∧ e = .returned (.slice (some ⟨B, 0, none⟩) m.length m.length) ∧ Blk w' B (wvs m) 52 ∧ Keeps (fun _ => False) wr w') := fun wr j m hRb hm => by
    have hj : j < s.ms.length := (List.getElem?_eq_some_iff.1 hm).1
    have hjd : j < d := by have := hOk.m; omega
    have hml := hOk.l m (List.mem_of_getElem? hm)
    have hpl : plc 1 n d l j = plW n m := by
      have := plc_enc (.inl rfl) hOk hd2 hjd
      rw [hEnc, hm] at this
      exact this
    have q := message_any p G 1 n d M l wr j hRb HL.out.1 hfst hjd (by
      rw [hpl]
      show (UInt32.ofNat m.length).toNat ≤ n
      rw [ofNat_len (by omega)]; exact hml.2)
    rw [hpl, msg_plW hml.2 hn2] at q
    exact ⟨hml, q⟩
  have HOK : Hid (∀ r ∈ rs, ∀ k : Nat, (bringN d (rd 3 n d r.l) (s.ms.take k)).Ok 3 n d) := fun r hr k => by
    obtain ⟨e1, e2, e3, _⟩ := HRS3.out r hr
    exact bringN_ok (rd_ok (.inr rfl) e3.len e2) _ fun m hm => hOk.l m (List.mem_of_mem_take hm)
  have HSD : Hid (s = rd 1 n d l ∧ C = s.ms.length ∧ l.length = 1 + d * (1 + n)) := ⟨hs, hC, hl1⟩
  have hC8 : C ≤ 8 := by have := hOk.m; omega
  have hCz : (C : Int) ≤ 8 := by omega
  clear hl1 hd1 hd2 hn1 hn2 hOk hEnc hs hC hcnt hfst hC8
  go_wp2_with fail
  refine HAR6.out.mono ?_
  rintro e w7 ⟨rfl, hk7⟩
  have hb7 := H6.out.2.2.kept hk7 fun e => e
  clear e0 e1 e2 e3 e4
  have e0 : w7.cell? ⟨Q, 0, none⟩ = some (.int .i64 p) := hb7.cell rfl
  have e1 : w7.cell? ⟨Q, 1, none⟩ = some (.int .i64 1) := hb7.cell rfl
  have e2 : w7.cell? ⟨Q, 2, none⟩ = some (.int .i64 n) := hb7.cell rfl
  have e3 : w7.cell? ⟨Q, 3, none⟩ = some (.int .i64 d) := hb7.cell rfl
  have e4 : w7.cell? ⟨Q, 4, none⟩ = some (.slice (some ⟨G, 0, none⟩) M M) := hb7.cell rfl
  have HZ7 : Hid (Calls _ _ _ _ _) := HZ.out w7 hk7
  have H7 : Hid (Keeps (fun _ => False) w w7 ∧ Keeps (fun _ => False) w4 w7 ∧ Blk w7 Q (#[.int .i64 p, .int .i64 1, .int .i64 n, .int .i64 d, .slice (some ⟨G, 0, none⟩) M M] : Array Value).toList 75) := ⟨H6.out.1.trans hk7 fun _ _ e => e, H6.out.2.1.trans hk7 fun _ _ e => e, hb7⟩
  clear hk7 hb7 HAR6 HZ H6
  go_wp2_with fail
  refine HZ7.out.mono ?_
  rintro e w8 ⟨rfl, hk8⟩
  have hb8 := H7.out.2.2.kept hk8 fun e => e
  clear e0 e1 e2 e3 e4
  have H8 : Hid (Keeps (fun _ => False) w w8 ∧ Keeps (fun _ => False) w4 w8 ∧ Blk w8 Q (#[.int .i64 p, .int .i64 1, .int .i64 n, .int .i64 d, .slice (some ⟨G, 0, none⟩) M M] : Array Value).toList 75) := ⟨H7.out.1.trans hk8 fun _ _ e => e, H7.out.2.1.trans hk8 fun _ _ e => e, hb8⟩
  clear hk8 hb8 HZ7 H7
  go_wp2
  go_loopw [59] (fun i wr => ∃ j : Nat, j ≤ C ∧ i = .int .i64 j ∧ DvI w8 wr n d rs (s.ms.take j)) (fun i _ => C - (intOf i).toNat)
  case atStart =>
    refine ⟨0, by omega, rfl, fun r hr => ?_, Keeps.refl _ _⟩
    obtain ⟨e1, e2, e3, _⟩ := HRS3.out r hr
    have e4 : enc 3 n d (bringN d (rd 3 n d r.l) (s.ms.take 0)) = r.l := by rw [List.take_zero]; exact enc_rd (.inr rfl) e3.len e3.d1 e2
    rw [e4]
    exact e3.grown H8.out.2.1
  case round =>
    obtain ⟨j, hj, rfl, hD⟩ := hrel
    have hQ7 : ∀ r ∈ rs, Q ≠ r.G ∧ G ≠ r.G := fun r hr => by
      have := (HRS3.out r hr).2.2.2.1
      have := HB3.out.2.2.2.2
      have := HQ.out.1
      omega
    have hbr := H8.out.2.2.kept hD.k (fun ⟨r, hr, e⟩ => (hQ7 r hr).1 e)
    have hRbr : Rb wr G 1 n d l := ((HB3.out.2.2.1.grown HT.out.1.k).grown H8.out.2.1).kept hD.k (fun ⟨r, hr, e⟩ => (hQ7 r hr).2 e)
    have e0 : wr.cell? ⟨Q, 0, none⟩ = some (.int .i64 p) := hbr.cell rfl
    have e1 : wr.cell? ⟨Q, 1, none⟩ = some (.int .i64 1) := hbr.cell rfl
    have e2 : wr.cell? ⟨Q, 2, none⟩ = some (.int .i64 n) := hbr.cell rfl
    have e3 : wr.cell? ⟨Q, 3, none⟩ = some (.int .i64 d) := hbr.cell rfl
    have e4 : wr.cell? ⟨Q, 4, none⟩ = some (.slice (some ⟨G, 0, none⟩) M M) := hbr.cell rfl
    by_cases hlt : j < C
    · have hlt' : (j : Int) < C := by omega
      have hjx : j < s.ms.length := by rw [← HSD.out.2.1]; exact hlt
      obtain ⟨m, hm⟩ : ∃ m, s.ms[j]? = some m := ⟨_, List.getElem?_eq_getElem hjx⟩
      obtain ⟨hml, hms⟩ := HMS.out wr j m hRbr hm
      have HMS9 : Hid (Calls _ _ _ _ _) := hms
      have HBA : Hid (∀ (w9 : World) (B : Nat), wr.heap.size ≤ B → Blk w9 B (wvs m) 52 → Keeps (fun _ => False) wr w9 → Calls Try.prog 48 #[.slice (some ⟨B, 0, none⟩) m.length m.length, .slice av R cv] w9 fun e w' => e = .returned (.tuple #[]) ∧ DvI w8 w' n d rs (s.ms.take (j + 1))) := fun w9 B hB hb9 k9 => by
        have hgl : ∀ r ∈ rs, r.G < wr.heap.size := fun r hr => (hD.each r hr).blk.lt
        have hlen : (psN n d rs (s.ms.take j)).length = R := by rw [psN_length, HRl.out]
        have hsg9 : SegR w9 av n d ((psN n d rs (s.ms.take j)).map (Pr.rr n d)) := by
          have h1 : SegR w9 av n d rs := ((HT.out.2.1.grown H8.out.2.1).kept hD.k (fun x hx ⟨r, hr, e⟩ => (HRS3.out r hr).2.2.2.2.1 x hx e)).grown k9
          refine segR_congr h1 (by simp [psN]) fun i r t hr ht => ?_
          rw [List.getElem?_map] at ht
          cases hp : (psN n d rs (s.ms.take j))[i]? with
          | none => rw [hp] at ht; cases ht
          | some u =>
            rw [hp] at ht
            cases ht
            obtain ⟨r2, hr2, rfl⟩ := psN_get hp
            rw [hr] at hr2
            cases hr2
            obtain ⟨e1, e2, e3, _⟩ := HRS3.out r (List.mem_of_getElem? hr)
            exact ⟨rfl, e1, rfl, by rw [e3.len]; exact (enc_length (.inr rfl) (HOK.out r (List.mem_of_getElem? hr) j)).symm⟩
        have q := bringAll_any B 0 m.length m av cv n d M (psN n d rs (s.ms.take j)) w9 hsg9 (fun x hx t ht => by
            obtain ⟨r, hr, rfl⟩ := psN_mem ht
            exact (HRS3.out r hr).2.2.2.2.1 x hx) (fun t ht => by
            obtain ⟨r, hr, rfl⟩ := psN_mem ht
            exact ⟨HOK.out r hr j, (hD.each r hr).grown k9, by have := hgl r hr; show B ≠ r.G; omega⟩) (fun i k t u ht hu hne => by
            obtain ⟨r1, hr1, rfl⟩ := psN_get ht
            obtain ⟨r2, hr2, rfl⟩ := psN_get hu
            exact HT.out.1.dist i k r1 r2 hr1 hr2 hne) (segW_of_blk hb9) hml.1 hml.2 (by rw [psN_length]; have := HT.out.2.2.2; have := HM.out.2.1; have := HRl.out; omega)
        rw [hlen] at q
        refine q.mono fun e w' ⟨q1, q2, q3⟩ => ⟨q1, fun r hr => ?_, ?_⟩
        · have := q2 ⟨r.p, r.G, bringN d (rd 3 n d r.l) (s.ms.take j)⟩ (List.mem_map.2 ⟨r, hr, rfl⟩)
          rw [bringN_snoc d _ s.ms j m hm]
          exact this
        · refine (hD.k.trans k9 fun _ _ e => e.elim).trans q3 fun b _ ⟨t, ht, e⟩ => ?_
          obtain ⟨r, hr, rfl⟩ := psN_mem ht
          exact ⟨r, hr, e⟩
      obtain ⟨k, hk⟩ : ∃ k, k = m.length := ⟨_, rfl⟩
      rw [← hk] at HMS9 HBA
      clear hD hQ7 hbr hRbr hms hml hm hk hjx hj
      go_wp2_with fail
      refine HMS9.out.mono ?_
      rintro e w9 ⟨B, hB, rfl, hb9, hk9⟩
      have HBA9 : Hid (Calls _ _ _ _ _) := HBA.out w9 B hB hb9 hk9
      clear hB hb9 hk9 HMS9 HBA e0 e1 e2 e3 e4
      go_wp2_with fail
      refine HBA9.out.mono ?_
      rintro e w10 ⟨rfl, hD10⟩
      have HD10 : Hid (DvI _ _ _ _ _ _) := hD10
      clear hD10 HBA9
      go_wp2
      go_roundw
      case rel => exact ⟨j + 1, by omega, by go_num, HD10.out⟩
      case measure => simp [intOf]; omega
    · obtain rfl : C = j := by omega
      have hms : s.ms.take C = s.ms := List.take_of_length_le (by have := HSD.out.2.1; omega)
      rw [hms] at hD
      -- the stage is cleared
      obtain ⟨zs, hzs⟩ : ∃ zs : List UInt32, zs = List.replicate M 0 := ⟨_, rfl⟩
      have hzl : zs.length = M := by rw [hzs]; simp
      have HCL : Hid (∀ ty, (Builtin.clear_ #[22] ty #[.slice (some ⟨G, 0, none⟩) M M]).run Try.prog wr = .ok (.tuple #[]) (wr.setRow G (wvs zs).toArray)) := fun ty => by
        have := run_clear_wb ty G 0 M M _ 52 hRbr.blk (by rw [wvs_length, Nat.zero_add]; exact Nat.le_of_eq HL.out.1)
        rw [this, List.take_zero, List.nil_append, Nat.zero_add, List.drop_of_length_le (by rw [wvs_length]; exact Nat.le_of_eq HL.out.1.symm), List.append_nil, hzs, wvs_rep]
        rfl
      obtain ⟨W10, hW10⟩ : ∃ W10, W10 = wr.setRow G (wvs zs).toArray := ⟨_, rfl⟩
      rw [← hW10] at HCL
      have hz10 : Blk W10 G (wvs zs) 52 := by rw [hW10]; exact hRbr.blk.setRow _
      have hk10 : Keeps (· = G) wr W10 := by rw [hW10]; exact setRow_keeps wr G _
      have hGr : ∀ r ∈ rs, r.G ≠ G := fun r hr => fun e => (hQ7 r hr).2 e.symm
      have hbQ : Blk W10 Q (#[.int .i64 p, .int .i64 1, .int .i64 n, .int .i64 d, .slice (some ⟨G, 0, none⟩) M M] : Array Value).toList 75 := hbr.kept hk10 (by have := HB3.out.2.2.2.2.1; have := HQ.out.1; omega)
      have hkw4 : Keeps (fun k => (∃ r ∈ rs, k = r.G) ∨ k = G) w4 W10 := ((H8.out.2.1.mono (T := fun k => (∃ r ∈ rs, k = r.G) ∨ k = G) fun _ _ e => e.elim).trans hD.k fun _ _ e => .inl e).trans hk10 fun _ _ e => .inr e
      have hvb : ∀ k, Value.ownBlock (.slice av R cv) = some k → W3.heap.size ≤ k ∧ (∀ r ∈ rs, k ≠ r.G) ∧ k ≠ G := fun k hk => by
        refine ⟨HT.out.1.new k hk, fun r hr => ?_, ?_⟩
        · obtain ⟨i, hi, rfl⟩ := List.getElem_of_mem hr
          exact (HT.out.1.each i _ (List.getElem?_eq_getElem hi)).2.2.2.2 k hk
        · have := HT.out.1.new k hk; have := HB3.out.2.2.2.2; omega
      have ho10 : W10.ownsRow 0 75 5 (.slice av R cv) rs.length (flatR n d rs) := owns_kept HT.out.1.own hkw4 fun k hk => by
        obtain ⟨_, h2, h3⟩ := hvb k hk
        rintro (⟨r, hr, e⟩ | e)
        · exact h2 r hr e
        · exact h3 e
      obtain ⟨v', W', hrun, hown, hf, hK'⟩ := append_row n d ⟨p, 1, G, zs⟩ (.slice av R cv) rs.length _ ho10 (by have := HT.out.2.2.2; have := HM.out.2.1; have := HRl.out; omega)
      have hvs2 : ((⟨p, 1, G, zs⟩ : Rr).vs n d).toArray = #[.int .i64 p, .int .i64 1, .int .i64 n, .int .i64 d, .slice (some ⟨G, 0, none⟩) M M] := by
        unfold Rr.vs
        simp only [hzl]
        rfl
      rw [hvs2] at hrun
      -- the rows that are laid back
      obtain ⟨RS, hRS⟩ : ∃ RS : List Rr, RS = (psN n d rs s.ms).map (Pr.rr n d) ++ [⟨p, 1, G, zs⟩] := ⟨_, rfl⟩
      have hRSl : RS.length = R + 1 := by rw [hRS, List.length_append, List.length_map, psN_length, HRl.out]; rfl
      have hfl : flatR n d rs ++ (⟨p, 1, G, zs⟩ : Rr).vs n d = flatR n d RS := by
        rw [hRS]
        have e1 : flatR n d ((psN n d rs s.ms).map (Pr.rr n d) ++ [⟨p, 1, G, zs⟩]) = flatR n d ((psN n d rs s.ms).map (Pr.rr n d)) ++ (⟨p, 1, G, zs⟩ : Rr).vs n d := by
          unfold flatR; rw [List.flatMap_append]; simp
        rw [e1]
        congr 1
        refine flatR_congr (by simp [psN]) fun i r t hr ht => ?_
        rw [List.getElem?_map] at ht
        cases hp : (psN n d rs s.ms)[i]? with
        | none => rw [hp] at ht; cases ht
        | some u =>
          rw [hp] at ht
          cases ht
          obtain ⟨r2, hr2, rfl⟩ := psN_get hp
          rw [hr] at hr2
          cases hr2
          obtain ⟨e1, e2, e3, _⟩ := HRS3.out r (List.mem_of_getElem? hr)
          have hok := HOK.out r (List.mem_of_getElem? hr) C
          rw [hms] at hok
          have e4 : r.l.length = (enc 3 n d (bringN d (rd 3 n d r.l) s.ms)).length := by rw [e3.len, enc_length (.inr rfl) hok]
          unfold Rr.vs Pr.rr
          simp only [e1, ← e4]
      have hown2 : W'.ownsRow 0 75 5 v' RS.length (flatR n d RS) := by rw [hRSl, ← hfl, HRl.out]; exact hown
      obtain ⟨a', c', hv', hsg', hao'⟩ := segR_of_owns hown2
      subst hv'
      have hw10 : w.heap.size ≤ W10.heap.size := by
        have h1 := H8.out.1.size
        have h2 := hD.k.size
        have h3 := hk10.size
        omega
      have hbl := HM.out.1.blk.lt
      have hgl := HM.out.1.row.lt
      have hkW : Keeps (fun k => w.heap.size ≤ k) w W' := by
        have h1 : Keeps (fun k => w.heap.size ≤ k) w w8 := H8.out.1.mono fun _ _ e => e.elim
        have h2 := h1.trans hD.k fun b hb ⟨r, hr, e⟩ => by have := (HRS3.out r hr).2.2.2.1; have := HB3.out.2.1.size; omega
        have h3 := h2.trans hk10 fun b hb e => by have := HB3.out.2.2.2.1; omega
        refine h3.trans hK' fun b hb e => ?_
        have := (hvb b e.symm).1
        have := HB3.out.2.1.size
        omega
      have hmW : Mm W' b g xs := HM.out.1.kept hkW (by omega) (by omega)
      have HLA : Hid (Calls Try.prog 50 #[.pointer (some ⟨b, 0, none⟩), .slice a' RS.length c'] W' fun e w' => e = .returned (.int .i64 0) ∧ Mm w' b g (layR xs RS) ∧ Keeps (· = g) W' w') := by
        refine layAll_any b g xs a' c' n d RS W' hmW hsg' (fun x hx => ?_) (fun r hr => ?_) (by have := HT.out.2.2.2; have := HM.out.2.1; have := HRl.out; omega)
        · rcases hf with e | ⟨k, e, hk⟩
          · have h1 := hao' x hx
            rw [e] at h1
            have := (hvb _ h1).1
            have := HB3.out.2.1.size
            omega
          · have h1 := hao' x hx
            rw [e] at h1
            cases h1
            omega
        · rw [hRS, List.mem_append] at hr
          rcases hr with hr | hr
          · obtain ⟨t, ht, rfl⟩ := List.mem_map.1 hr
            clear hr
            obtain ⟨r, hr, rfl⟩ := psN_mem ht
            obtain ⟨e1, e2, e3, e4, e5, q, hq, e6, e7, e8⟩ := HRS3.out r hr
            have hRb := hD.each r hr
            refine ⟨(hRb.blk.kept hk10 (hGr r hr)).kept hK' fun e => (hvb _ e.symm).2.1 r hr rfl, ?_, ?_⟩
            · show r.G ≠ g
              have := HB3.out.2.1.size
              omega
            · show r.p + (enc 3 n d (bringN d (rd 3 n d r.l) s.ms)).length ≤ xs.length
              rw [hRb.len, ← rsz_nat]; exact e8
          · simp at hr
            subst hr
            exact ⟨hz10.kept hK' fun e => (hvb _ e.symm).2.2 rfl, by show G ≠ g; have := HB3.out.2.2.2.1; omega, by show p + zs.length ≤ xs.length; rw [hzl, HL.out.2.2]; exact HI.out⟩
      rw [hRSl] at HLA
      have HFN : Hid (layR xs RS = dlX xs p n d ports ∧ Keeps (fun k => w.heap.size ≤ k) w W') := by
        refine ⟨?_, hkW⟩
        have e1 : layR xs RS = lay (rs.foldl (fun ys r => lay ys r.p (enc 3 n d (bringN d (rd 3 n d r.l) s.ms))) xs) p zs := by
          rw [hRS]
          unfold layR
          rw [List.foldl_append, List.foldl_map]
          unfold psN
          rw [List.foldl_map]
          rfl
        rw [e1, fold_ports xs (rsz 3 n d) (fun l => enc 3 n d (bringN d (rd 3 n d l) s.ms)) rs ports (by have := HT.out.2.2.2; have := HRl.out; omega) (fun i r q hr hq => by
          obtain ⟨_, ⟨q2, h2, _, _, h3, h4⟩, _⟩ := HT.out.1.each i r hr
          rw [hq] at h2
          cases h2
          exact ⟨h3, h4⟩)]
        unfold dlX dlP rdA
        rw [hzs, HL.out.2.2, HSD.out.1, HL.out.2.1]
        rfl
      rw [HFN.out.1, ← HXF.out] at HLA
      have HAP : Hid (∀ ty, (Builtin.append_ #[81, 81] ty #[.slice av R cv, .slice (some ⟨W10.heap.size, 0, none⟩) 1 1]).run Try.prog (W10.alloc (.cells #[.int .i64 p, .int .i64 1, .int .i64 n, .int .i64 d, .slice (some ⟨G, 0, none⟩) M M] 75)) = .ok (.slice a' (R + 1) c') W') := by rw [← hRSl]; exact hrun
      have HW10 : Hid (W10 = wr.setRow G (wvs zs).toArray) := hW10
      clear e0 e1 e2 e3 e4
      have e0 : W10.cell? ⟨Q, 0, none⟩ = some (.int .i64 p) := hbQ.cell rfl
      have e1 : W10.cell? ⟨Q, 1, none⟩ = some (.int .i64 1) := hbQ.cell rfl
      have e2 : W10.cell? ⟨Q, 2, none⟩ = some (.int .i64 n) := hbQ.cell rfl
      have e3 : W10.cell? ⟨Q, 3, none⟩ = some (.int .i64 d) := hbQ.cell rfl
      have e4 : W10.cell? ⟨Q, 4, none⟩ = some (.slice (some ⟨G, 0, none⟩) M M) := hbQ.cell rfl
      have f0 : wr.cell? ⟨Q, 0, none⟩ = some (.int .i64 p) := hbr.cell rfl
      have f1 : wr.cell? ⟨Q, 1, none⟩ = some (.int .i64 1) := hbr.cell rfl
      have f2 : wr.cell? ⟨Q, 2, none⟩ = some (.int .i64 n) := hbr.cell rfl
      have f3 : wr.cell? ⟨Q, 3, none⟩ = some (.int .i64 d) := hbr.cell rfl
      have f4 : wr.cell? ⟨Q, 4, none⟩ = some (.slice (some ⟨G, 0, none⟩) M M) := hbr.cell rfl
      clear hW10 hD hQ7 hbr hRbr hms hzs hzl hz10 hk10 hGr hbQ hkw4 hvb ho10 hrun hown hf hK' hvs2 hRS hRSl hfl hown2 hsg' hao' hw10 hbl hgl hkW hmW hlt hj
      go_wp2_with (first | (refine isClear (.tmp 69) 22 rfl ?_; go_must (refine wpList_clear_run rfl (.tmp 69) 22 rfl (.slice (some ⟨G, 0, none⟩) M M) (.tuple #[]) W10 rfl HCL.out ?_)) | (at_builtin; go_must (refine wpList_append_run rfl _ _ 81 81 rfl (.slice av R cv) (.slice (some ⟨W10.heap.size, 0, none⟩) 1 1) (.slice a' (R + 1) c') W' rfl rfl HAP.out ?_)))
      refine HLA.out.mono ?_
      rintro e w12 ⟨rfl, hm12, hk12⟩
      have H12 : Hid (Mm _ _ _ _ ∧ Keeps _ _ _) := ⟨hm12, hk12⟩
      clear hm12 hk12 HLA
      go_wp2
      go_ret
      exact ⟨rfl, H12.out.1, (HFN.out.2.mono (T := (· = g)) fun b hb e => absurd hb (by omega)).trans H12.out.2 fun _ _ e => e⟩

end Go.Proofs.Ytekijhhpldnmnaa
