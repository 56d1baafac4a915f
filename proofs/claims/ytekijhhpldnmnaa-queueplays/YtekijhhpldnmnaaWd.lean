import Derived.Test.YtekijhhpldnmnaaWc
namespace Go.Proofs.Ytekijhhpldnmnaa
open Go.RowKit
set_option linter.unusedVariables false
set_option linter.unusedSimpArgs false

/-- One row in a new block. -/
theorem segR_one {w : World} (n d : Nat) (r : Rr) : SegR (w.alloc (.cells (r.vs n d).toArray 75)) (some ⟨w.heap.size, 0, none⟩) n d [r] := by
  have hb := Blk.new w (r.vs n d).toArray 75
  refine .inr ⟨_, 0, rfl, fun j s hj => ?_⟩
  cases j with
  | zero => cases hj; exact ⟨hb.cell rfl, hb.cell rfl, hb.cell rfl, hb.cell rfl, hb.cell rfl⟩
  | succ j => simp at hj

set_option maxRecDepth 20000 in
set_option maxHeartbeats 4000000 in
theorem deliver_ports (b g : Nat) (xs : List UInt32) (p n d : Nat) (a : Option Addr) (c : Nat) (ports : List Int) (w : World) (hm : Mm w b g xs) (he : fitE false n d = 0) (hk : ports.length ≤ 4) (hi : p + rsz 1 n d ≤ xs.length) (hs : SegI w a ports) (hpp : ∀ q ∈ ports, q ≤ 9223372036854775807) (hn : ¬ ∀ q ∈ ports, 0 ≤ q ∧ q + (rsz 3 n d : Int) ≤ xs.length) :
    Calls Try.prog 17 #[.pointer (some ⟨b, 0, none⟩), .int .i64 p, .int .i64 n, .int .i64 d, .slice a ports.length c] w fun e w' => e = .returned (.int .i64 51) ∧ Keeps (fun _ => False) w w' := by
  have HN : Hid (¬ ∀ q ∈ ports, 0 ≤ q ∧ q + (rsz 3 n d : Int) ≤ xs.length) := hn
  have HF : Hid (Calls Try.prog 38 #[.pointer (some ⟨b, 0, none⟩), .int .i64 n, .int .i64 d] w fun e w' => e = .returned (.int .i64 0) ∧ w' = w) := by
    have q := fits_any false b n d w
    rw [he] at q
    exact q
  have HC : Hid (Calls Try.prog 44 #[.pointer (some ⟨b, 0, none⟩), .int .i64 p, .int .i64 1, .int .i64 n, .int .i64 d] w fun e w' => ∃ G, w.heap.size ≤ G ∧ e = .returned (.tuple #[.agg #[.int .i64 p, .int .i64 1, .int .i64 n, .int .i64 d, .slice (some ⟨G, 0, none⟩) (rsz 1 n d) (rsz 1 n d)], .int .i64 0]) ∧ Rb w' G 1 n d (win xs p (rsz 1 n d)) ∧ Keeps (fun _ => False) w w') := take_ok b g xs p 1 n d w hm (.inl rfl) he hi
  have hwl := win_length xs p (rsz 1 n d) hi
  obtain ⟨l, hl⟩ : ∃ l, l = win xs p (rsz 1 n d) := ⟨_, rfl⟩
  obtain ⟨M, hM⟩ : ∃ M, M = rsz 1 n d := ⟨_, rfl⟩
  rw [← hl] at HC hwl
  rw [← hM] at HC hwl
  have HL : Hid (M = l.length ∧ l = win xs p (rsz 1 n d) ∧ M = rsz 1 n d) := ⟨hwl.symm, hl, hM⟩
  obtain ⟨K, hK⟩ : ∃ K, K = ports.length := ⟨_, rfl⟩
  have HP : Hid (∀ W3, Keeps (fun _ => False) w W3 → Calls Try.prog 45 #[.pointer (some ⟨b, 0, none⟩), .int .i64 n, .int .i64 d, .slice a K c] W3 fun e w' => TpP W3 xs n d ports e w') := fun W3 k => by
    rw [hK]; exact takePorts_any b g xs n d a c ports W3 (hm.kept k (fun e => e) (fun e => e)) he (hs.kept k fun _ _ e => e) (by omega) hpp
  have HM : Hid (Mm w b g xs ∧ ports.length ≤ 4 ∧ K = ports.length ∧ fitE false n d = 0) := ⟨hm, hk, hK, he⟩
  rw [← hK] at hk ⊢
  have hk2 : ¬ (4 : Int) < (K : Int) := by omega
  clear he hk hm hpp hi hs hl hM hwl hK hn
  go_enter Try.func17, Try.ntmps17
  go_wp2_with fail
  refine HF.out.mono ?_
  rintro e w1 ⟨rfl, hw⟩
  obtain rfl := hw.symm
  clear hw HF
  go_wp2_with fail
  refine HC.out.mono ?_
  rintro e w2 ⟨G, hG, rfl, hR, hk2q⟩
  obtain ⟨W3, hW3⟩ : ∃ W3, W3 = w2.alloc (.cells #[.int .i64 p, .int .i64 1, .int .i64 n, .int .i64 d, .slice (some ⟨G, 0, none⟩) M M] 75) := ⟨_, rfl⟩
  have hk3 : Keeps (fun _ => False) w2 W3 := by rw [hW3]; exact (Keeps.refl _ w2).alloc _
  have hb3 : Blk W3 w2.heap.size (#[.int .i64 p, .int .i64 1, .int .i64 n, .int .i64 d, .slice (some ⟨G, 0, none⟩) M M] : Array Value).toList 75 := by rw [hW3]; exact Blk.new w2 _ 75
  have HB3 : Hid (W3 = w2.alloc (.cells #[.int .i64 p, .int .i64 1, .int .i64 n, .int .i64 d, .slice (some ⟨G, 0, none⟩) M M] 75) ∧ Keeps (fun _ => False) w W3 ∧ Rb W3 G 1 n d l ∧ w.heap.size ≤ G ∧ G < w2.heap.size ∧ W3.heap.size = w2.heap.size + 1) := ⟨hW3, hk2q.trans hk3 fun _ _ e => e, hR.grown hk3, hG, hR.blk.lt, by rw [hW3]; simp⟩
  obtain ⟨Q, hQ⟩ : ∃ Q, Q = w2.heap.size := ⟨_, rfl⟩
  rw [← hQ] at hb3
  have HQ : Hid (Q = w2.heap.size ∧ Blk W3 Q (#[.int .i64 p, .int .i64 1, .int .i64 n, .int .i64 d, .slice (some ⟨G, 0, none⟩) M M] : Array Value).toList 75) := ⟨hQ, hb3⟩
  have HPC : Hid (Calls _ _ _ _ _) := HP.out W3 HB3.out.2.1
  clear hW3 hk3 hb3 hQ hG hR hk2q HC HP
  go_wp2_with fail
  rw [← HB3.out.1, ← HQ.out.1]
  refine HPC.out.mono ?_
  clear HPC
  rintro e w4 (⟨h1, _⟩ | ⟨_, rfl, hk4⟩)
  · exact absurd h1 HN.out
  have HK4 : Hid (Keeps _ _ _) := hk4
  clear hk4
  go_wp2
  go_ret
  exact ⟨rfl, HB3.out.2.1.trans HK4.out fun _ _ e => e⟩

set_option maxRecDepth 20000 in
set_option maxHeartbeats 4000000 in
theorem deliver_odd (b g : Nat) (xs : List UInt32) (p n d : Nat) (a : Option Addr) (c : Nat) (ports : List Int) (w : World) (hm : Mm w b g xs) (he : fitE false n d = 0) (hk : ports.length ≤ 4) (hi : p + rsz 1 n d ≤ xs.length) (hs : SegI w a ports) (hpp : ∀ q ∈ ports, q ≤ 9223372036854775807) (hn : ∀ q ∈ ports, 0 ≤ q ∧ q + (rsz 3 n d : Int) ≤ xs.length) (hr : rightB 1 n d (win xs p (rsz 1 n d)) = false) :
    Calls Try.prog 17 #[.pointer (some ⟨b, 0, none⟩), .int .i64 p, .int .i64 n, .int .i64 d, .slice a ports.length c] w fun e w' => e = .returned (.int .i64 201) ∧ Keeps (fun _ => False) w w' := by
  have HN : Hid (∀ q ∈ ports, 0 ≤ q ∧ q + (rsz 3 n d : Int) ≤ xs.length) := hn
  have HF : Hid (Calls Try.prog 38 #[.pointer (some ⟨b, 0, none⟩), .int .i64 n, .int .i64 d] w fun e w' => e = .returned (.int .i64 0) ∧ w' = w) := by
    have q := fits_any false b n d w
    rw [he] at q
    exact q
  have HC : Hid (Calls Try.prog 44 #[.pointer (some ⟨b, 0, none⟩), .int .i64 p, .int .i64 1, .int .i64 n, .int .i64 d] w fun e w' => ∃ G, w.heap.size ≤ G ∧ e = .returned (.tuple #[.agg #[.int .i64 p, .int .i64 1, .int .i64 n, .int .i64 d, .slice (some ⟨G, 0, none⟩) (rsz 1 n d) (rsz 1 n d)], .int .i64 0]) ∧ Rb w' G 1 n d (win xs p (rsz 1 n d)) ∧ Keeps (fun _ => False) w w') := take_ok b g xs p 1 n d w hm (.inl rfl) he hi
  have hwl := win_length xs p (rsz 1 n d) hi
  obtain ⟨l, hl⟩ : ∃ l, l = win xs p (rsz 1 n d) := ⟨_, rfl⟩
  obtain ⟨M, hM⟩ : ∃ M, M = rsz 1 n d := ⟨_, rfl⟩
  rw [← hl] at HC hwl hr
  rw [← hM] at HC hwl
  have HL : Hid (M = l.length ∧ l = win xs p (rsz 1 n d) ∧ M = rsz 1 n d) := ⟨hwl.symm, hl, hM⟩
  have HRF : Hid (rightB 1 n d l = false) := hr
  obtain ⟨K, hK⟩ : ∃ K, K = ports.length := ⟨_, rfl⟩
  have HP : Hid (∀ W3, Keeps (fun _ => False) w W3 → Calls Try.prog 45 #[.pointer (some ⟨b, 0, none⟩), .int .i64 n, .int .i64 d, .slice a K c] W3 fun e w' => TpP W3 xs n d ports e w') := fun W3 k => by
    rw [hK]; exact takePorts_any b g xs n d a c ports W3 (hm.kept k (fun e => e) (fun e => e)) he (hs.kept k fun _ _ e => e) (by omega) hpp
  have HM : Hid (Mm w b g xs ∧ ports.length ≤ 4 ∧ K = ports.length ∧ fitE false n d = 0) := ⟨hm, hk, hK, he⟩
  rw [← hK] at hk ⊢
  have hk2 : ¬ (4 : Int) < (K : Int) := by omega
  clear he hk hm hpp hi hs hl hM hwl hK hn hr
  go_enter Try.func17, Try.ntmps17
  go_wp2_with fail
  refine HF.out.mono ?_
  rintro e w1 ⟨rfl, hw⟩
  obtain rfl := hw.symm
  clear hw HF
  go_wp2_with fail
  refine HC.out.mono ?_
  rintro e w2 ⟨G, hG, rfl, hR, hk2q⟩
  obtain ⟨W3, hW3⟩ : ∃ W3, W3 = w2.alloc (.cells #[.int .i64 p, .int .i64 1, .int .i64 n, .int .i64 d, .slice (some ⟨G, 0, none⟩) M M] 75) := ⟨_, rfl⟩
  have hk3 : Keeps (fun _ => False) w2 W3 := by rw [hW3]; exact (Keeps.refl _ w2).alloc _
  have hb3 : Blk W3 w2.heap.size (#[.int .i64 p, .int .i64 1, .int .i64 n, .int .i64 d, .slice (some ⟨G, 0, none⟩) M M] : Array Value).toList 75 := by rw [hW3]; exact Blk.new w2 _ 75
  have HB3 : Hid (W3 = w2.alloc (.cells #[.int .i64 p, .int .i64 1, .int .i64 n, .int .i64 d, .slice (some ⟨G, 0, none⟩) M M] 75) ∧ Keeps (fun _ => False) w W3 ∧ Rb W3 G 1 n d l ∧ w.heap.size ≤ G ∧ G < w2.heap.size ∧ W3.heap.size = w2.heap.size + 1) := ⟨hW3, hk2q.trans hk3 fun _ _ e => e, hR.grown hk3, hG, hR.blk.lt, by rw [hW3]; simp⟩
  obtain ⟨Q, hQ⟩ : ∃ Q, Q = w2.heap.size := ⟨_, rfl⟩
  rw [← hQ] at hb3
  have HQ : Hid (Q = w2.heap.size ∧ Blk W3 Q (#[.int .i64 p, .int .i64 1, .int .i64 n, .int .i64 d, .slice (some ⟨G, 0, none⟩) M M] : Array Value).toList 75) := ⟨hQ, hb3⟩
  have HPC : Hid (Calls _ _ _ _ _) := HP.out W3 HB3.out.2.1
  clear hW3 hk3 hb3 hQ hG hR hk2q HC HP
  go_wp2_with fail
  rw [← HB3.out.1, ← HQ.out.1]
  refine HPC.out.mono ?_
  clear HPC
  rintro e w4 (⟨_, v, rs, hrl, rfl, hT⟩ | ⟨h1, _⟩)
  case inr => exact absurd HN.out h1
  obtain ⟨av, cv, hav, hsg, hao⟩ := segR_of_owns hT.own
  subst hav
  have hb4 := HQ.out.2.kept hT.k fun e => e
  have e0 : w4.cell? ⟨Q, 0, none⟩ = some (.int .i64 p) := hb4.cell rfl
  have e1 : w4.cell? ⟨Q, 1, none⟩ = some (.int .i64 1) := hb4.cell rfl
  have e2 : w4.cell? ⟨Q, 2, none⟩ = some (.int .i64 n) := hb4.cell rfl
  have e3 : w4.cell? ⟨Q, 3, none⟩ = some (.int .i64 d) := hb4.cell rfl
  have e4 : w4.cell? ⟨Q, 4, none⟩ = some (.slice (some ⟨G, 0, none⟩) M M) := hb4.cell rfl
  have hone := segR_one (w := w4) n d ⟨p, 1, G, l⟩
  have hvs : ((⟨p, 1, G, l⟩ : Rr).vs n d).toArray = #[.int .i64 p, .int .i64 1, .int .i64 n, .int .i64 d, .slice (some ⟨G, 0, none⟩) M M] := by
    unfold Rr.vs
    simp only [← HL.out.1]
    rfl
  rw [hvs] at hone
  obtain ⟨W5, hW5⟩ : ∃ W5, W5 = w4.alloc (.cells #[.int .i64 p, .int .i64 1, .int .i64 n, .int .i64 d, .slice (some ⟨G, 0, none⟩) M M] 75) := ⟨_, rfl⟩
  rw [← hW5] at hone
  have hk5 : Keeps (fun _ => False) w4 W5 := by rw [hW5]; exact (Keeps.refl _ w4).alloc _
  have hk35 : Keeps (fun _ => False) W3 W5 := hT.k.trans hk5 fun _ _ e => e
  have hRS := allRight_any _ 1 n d [⟨p, 1, G, l⟩] W5 hone (fun r hr => by simp at hr; subst hr; exact HB3.out.2.2.1.grown hk35) (by simp)
  have e5 : ([⟨p, 1, G, l⟩] : List Rr).all (fun r => rightB r.h n d r.l) = rightB 1 n d l := by simp
  rw [e5] at hRS
  rw [HRF.out] at hRS
  have HRS : Hid (Calls Try.prog 46 #[.slice (some ⟨w4.heap.size, 0, none⟩) 1 1] W5 fun e w' => e = .returned (.bool false) ∧ Keeps (fun _ => False) W5 w') := hRS
  have H5 : Hid (W5 = w4.alloc (.cells #[.int .i64 p, .int .i64 1, .int .i64 n, .int .i64 d, .slice (some ⟨G, 0, none⟩) M M] 75) ∧ Keeps (fun _ => False) w W5) := ⟨hW5, HB3.out.2.1.trans hk35 fun _ _ e => e⟩
  clear hRS hone hvs hW5 hk5 hk35 hb4 hsg hao hT hrl e5
  go_wp2_with fail
  rw [← H5.out.1]
  refine HRS.out.mono ?_
  rintro e w6 ⟨rfl, hk6⟩
  have HK6 : Hid (Keeps _ _ _) := hk6
  clear hk6 HRS e0 e1 e2 e3 e4
  go_wp2
  go_ret
  exact ⟨rfl, H5.out.2.trans HK6.out fun _ _ e => e⟩

set_option maxRecDepth 20000 in
set_option maxHeartbeats 4000000 in
theorem deliver_odds (b g : Nat) (xs : List UInt32) (p n d : Nat) (a : Option Addr) (c : Nat) (ports : List Int) (w : World) (hm : Mm w b g xs) (he : fitE false n d = 0) (hk : ports.length ≤ 4) (hi : p + rsz 1 n d ≤ xs.length) (hs : SegI w a ports) (hpp : ∀ q ∈ ports, q ≤ 9223372036854775807) (hn : ∀ q ∈ ports, 0 ≤ q ∧ q + (rsz 3 n d : Int) ≤ xs.length) (hr : rightB 1 n d (win xs p (rsz 1 n d)) = true) (hr3 : ¬ ∀ q ∈ ports, rightB 3 n d (win xs q.toNat (rsz 3 n d)) = true) :
    Calls Try.prog 17 #[.pointer (some ⟨b, 0, none⟩), .int .i64 p, .int .i64 n, .int .i64 d, .slice a ports.length c] w fun e w' => e = .returned (.int .i64 201) ∧ Keeps (fun _ => False) w w' := by
  have HN : Hid (∀ q ∈ ports, 0 ≤ q ∧ q + (rsz 3 n d : Int) ≤ xs.length) := hn
  have HR3 : Hid (¬ ∀ q ∈ ports, rightB 3 n d (win xs q.toNat (rsz 3 n d)) = true) := hr3
  have HF : Hid (Calls Try.prog 38 #[.pointer (some ⟨b, 0, none⟩), .int .i64 n, .int .i64 d] w fun e w' => e = .returned (.int .i64 0) ∧ w' = w) := by
    have q := fits_any false b n d w
    rw [he] at q
    exact q
  have HC : Hid (Calls Try.prog 44 #[.pointer (some ⟨b, 0, none⟩), .int .i64 p, .int .i64 1, .int .i64 n, .int .i64 d] w fun e w' => ∃ G, w.heap.size ≤ G ∧ e = .returned (.tuple #[.agg #[.int .i64 p, .int .i64 1, .int .i64 n, .int .i64 d, .slice (some ⟨G, 0, none⟩) (rsz 1 n d) (rsz 1 n d)], .int .i64 0]) ∧ Rb w' G 1 n d (win xs p (rsz 1 n d)) ∧ Keeps (fun _ => False) w w') := take_ok b g xs p 1 n d w hm (.inl rfl) he hi
  have hwl := win_length xs p (rsz 1 n d) hi
  obtain ⟨l, hl⟩ : ∃ l, l = win xs p (rsz 1 n d) := ⟨_, rfl⟩
  obtain ⟨M, hM⟩ : ∃ M, M = rsz 1 n d := ⟨_, rfl⟩
  rw [← hl] at HC hwl hr
  rw [← hM] at HC hwl
  have HL : Hid (M = l.length ∧ l = win xs p (rsz 1 n d) ∧ M = rsz 1 n d) := ⟨hwl.symm, hl, hM⟩
  have HRF : Hid (rightB 1 n d l = true) := hr
  obtain ⟨K, hK⟩ : ∃ K, K = ports.length := ⟨_, rfl⟩
  have HP : Hid (∀ W3, Keeps (fun _ => False) w W3 → Calls Try.prog 45 #[.pointer (some ⟨b, 0, none⟩), .int .i64 n, .int .i64 d, .slice a K c] W3 fun e w' => TpP W3 xs n d ports e w') := fun W3 k => by
    rw [hK]; exact takePorts_any b g xs n d a c ports W3 (hm.kept k (fun e => e) (fun e => e)) he (hs.kept k fun _ _ e => e) (by omega) hpp
  have HM : Hid (Mm w b g xs ∧ ports.length ≤ 4 ∧ K = ports.length ∧ fitE false n d = 0) := ⟨hm, hk, hK, he⟩
  rw [← hK] at hk ⊢
  have hk2 : ¬ (4 : Int) < (K : Int) := by omega
  clear he hk hm hpp hi hs hl hM hwl hK hn hr hr3
  go_enter Try.func17, Try.ntmps17
  go_wp2_with fail
  refine HF.out.mono ?_
  rintro e w1 ⟨rfl, hw⟩
  obtain rfl := hw.symm
  clear hw HF
  go_wp2_with fail
  refine HC.out.mono ?_
  rintro e w2 ⟨G, hG, rfl, hR, hk2q⟩
  obtain ⟨W3, hW3⟩ : ∃ W3, W3 = w2.alloc (.cells #[.int .i64 p, .int .i64 1, .int .i64 n, .int .i64 d, .slice (some ⟨G, 0, none⟩) M M] 75) := ⟨_, rfl⟩
  have hk3 : Keeps (fun _ => False) w2 W3 := by rw [hW3]; exact (Keeps.refl _ w2).alloc _
  have hb3 : Blk W3 w2.heap.size (#[.int .i64 p, .int .i64 1, .int .i64 n, .int .i64 d, .slice (some ⟨G, 0, none⟩) M M] : Array Value).toList 75 := by rw [hW3]; exact Blk.new w2 _ 75
  have HB3 : Hid (W3 = w2.alloc (.cells #[.int .i64 p, .int .i64 1, .int .i64 n, .int .i64 d, .slice (some ⟨G, 0, none⟩) M M] 75) ∧ Keeps (fun _ => False) w W3 ∧ Rb W3 G 1 n d l ∧ w.heap.size ≤ G ∧ G < w2.heap.size ∧ W3.heap.size = w2.heap.size + 1) := ⟨hW3, hk2q.trans hk3 fun _ _ e => e, hR.grown hk3, hG, hR.blk.lt, by rw [hW3]; simp⟩
  obtain ⟨Q, hQ⟩ : ∃ Q, Q = w2.heap.size := ⟨_, rfl⟩
  rw [← hQ] at hb3
  have HQ : Hid (Q = w2.heap.size ∧ Blk W3 Q (#[.int .i64 p, .int .i64 1, .int .i64 n, .int .i64 d, .slice (some ⟨G, 0, none⟩) M M] : Array Value).toList 75) := ⟨hQ, hb3⟩
  have HPC : Hid (Calls _ _ _ _ _) := HP.out W3 HB3.out.2.1
  clear hW3 hk3 hb3 hQ hG hR hk2q HC HP
  go_wp2_with fail
  rw [← HB3.out.1, ← HQ.out.1]
  refine HPC.out.mono ?_
  clear HPC
  rintro e w4 (⟨_, v, rs, hrl, rfl, hT⟩ | ⟨h1, _⟩)
  case inr => exact absurd HN.out h1
  obtain ⟨av, cv, hav, hsg, hao⟩ := segR_of_owns hT.own
  subst hav
  have hb4 := HQ.out.2.kept hT.k fun e => e
  have e0 : w4.cell? ⟨Q, 0, none⟩ = some (.int .i64 p) := hb4.cell rfl
  have e1 : w4.cell? ⟨Q, 1, none⟩ = some (.int .i64 1) := hb4.cell rfl
  have e2 : w4.cell? ⟨Q, 2, none⟩ = some (.int .i64 n) := hb4.cell rfl
  have e3 : w4.cell? ⟨Q, 3, none⟩ = some (.int .i64 d) := hb4.cell rfl
  have e4 : w4.cell? ⟨Q, 4, none⟩ = some (.slice (some ⟨G, 0, none⟩) M M) := hb4.cell rfl
  have hone := segR_one (w := w4) n d ⟨p, 1, G, l⟩
  have hvs : ((⟨p, 1, G, l⟩ : Rr).vs n d).toArray = #[.int .i64 p, .int .i64 1, .int .i64 n, .int .i64 d, .slice (some ⟨G, 0, none⟩) M M] := by
    unfold Rr.vs
    simp only [← HL.out.1]
    rfl
  rw [hvs] at hone
  obtain ⟨W5, hW5⟩ : ∃ W5, W5 = w4.alloc (.cells #[.int .i64 p, .int .i64 1, .int .i64 n, .int .i64 d, .slice (some ⟨G, 0, none⟩) M M] 75) := ⟨_, rfl⟩
  rw [← hW5] at hone
  have hk5 : Keeps (fun _ => False) w4 W5 := by rw [hW5]; exact (Keeps.refl _ w4).alloc _
  have hk35 : Keeps (fun _ => False) W3 W5 := hT.k.trans hk5 fun _ _ e => e
  have hRS := allRight_any _ 1 n d [⟨p, 1, G, l⟩] W5 hone (fun r hr => by simp at hr; subst hr; exact HB3.out.2.2.1.grown hk35) (by simp)
  have e5 : ([⟨p, 1, G, l⟩] : List Rr).all (fun r => rightB r.h n d r.l) = rightB 1 n d l := by simp
  rw [e5] at hRS
  rw [HRF.out] at hRS
  have HRS : Hid (Calls Try.prog 46 #[.slice (some ⟨w4.heap.size, 0, none⟩) 1 1] W5 fun e w' => e = .returned (.bool true) ∧ Keeps (fun _ => False) W5 w') := hRS
  have H5 : Hid (W5 = w4.alloc (.cells #[.int .i64 p, .int .i64 1, .int .i64 n, .int .i64 d, .slice (some ⟨G, 0, none⟩) M M] 75) ∧ Keeps (fun _ => False) w W5 ∧ Keeps (fun _ => False) w4 W5) := ⟨hW5, HB3.out.2.1.trans hk35 fun _ _ e => e, hk5⟩
  have HT : Hid (TpI W3 w4 (.slice av rs.length cv) xs n d ports rs ∧ SegR w4 av n d rs ∧ (∀ x, av = some x → Value.ownBlock (.slice av rs.length cv) = some x.block) ∧ rs.length = ports.length) := ⟨hT, hsg, hao, hrl⟩
  have HAR : Hid (∀ w6, Keeps (fun _ => False) w4 w6 → Calls Try.prog 46 #[.slice av rs.length cv] w6 fun e w' => e = .returned (.bool (rs.all fun r => rightB r.h n d r.l)) ∧ Keeps (fun _ => False) w6 w') := fun w6 k6 => by
    exact allRight_any av cv n d rs w6 (hsg.grown k6) (fun r hr => by
      obtain ⟨i, hi, rfl⟩ := List.getElem_of_mem hr
      obtain ⟨e1, _, e3, _⟩ := hT.each i _ (List.getElem?_eq_getElem hi)
      rw [e1]; exact e3.grown k6) (by have := HM.out.2.1; omega)
  have hb5 := hb4.kept hk5 fun e => e
  clear e0 e1 e2 e3 e4
  have e0 : w4.cell? ⟨Q, 0, none⟩ = some (.int .i64 p) := hb4.cell rfl
  have e1 : w4.cell? ⟨Q, 1, none⟩ = some (.int .i64 1) := hb4.cell rfl
  have e2 : w4.cell? ⟨Q, 2, none⟩ = some (.int .i64 n) := hb4.cell rfl
  have e3 : w4.cell? ⟨Q, 3, none⟩ = some (.int .i64 d) := hb4.cell rfl
  have e4 : w4.cell? ⟨Q, 4, none⟩ = some (.slice (some ⟨G, 0, none⟩) M M) := hb4.cell rfl
  have HQ5 : Hid (Blk W5 Q (#[.int .i64 p, .int .i64 1, .int .i64 n, .int .i64 d, .slice (some ⟨G, 0, none⟩) M M] : Array Value).toList 75) := hb5
  clear hRS hone hvs hW5 hk5 hk35 hb4 hsg hao hT hrl hb5 e5
  obtain ⟨R, hRl⟩ : ∃ R, R = rs.length := ⟨_, rfl⟩
  rw [← hRl] at HT HAR ⊢
  have HRl : Hid (R = rs.length) := hRl
  clear hRl
  go_wp2_with fail
  rw [← H5.out.1]
  refine HRS.out.mono ?_
  rintro e w6 ⟨rfl, hk6⟩
  have hb6 := HQ5.out.kept hk6 fun e => e
  have hk46 := H5.out.2.2.trans hk6 fun _ _ e => e
  clear e0 e1 e2 e3 e4
  have e0 : w6.cell? ⟨Q, 0, none⟩ = some (.int .i64 p) := hb6.cell rfl
  have e1 : w6.cell? ⟨Q, 1, none⟩ = some (.int .i64 1) := hb6.cell rfl
  have e2 : w6.cell? ⟨Q, 2, none⟩ = some (.int .i64 n) := hb6.cell rfl
  have e3 : w6.cell? ⟨Q, 3, none⟩ = some (.int .i64 d) := hb6.cell rfl
  have e4 : w6.cell? ⟨Q, 4, none⟩ = some (.slice (some ⟨G, 0, none⟩) M M) := hb6.cell rfl
  have HAR6 : Hid (Calls _ _ _ _ _) := HAR.out w6 hk46
  have H6 : Hid (Keeps (fun _ => False) w w6 ∧ Keeps (fun _ => False) w4 w6 ∧ Blk w6 Q (#[.int .i64 p, .int .i64 1, .int .i64 n, .int .i64 d, .slice (some ⟨G, 0, none⟩) M M] : Array Value).toList 75) := ⟨H5.out.2.1.trans hk6 fun _ _ e => e, hk46, hb6⟩
  clear hk6 hb6 hk46 HRS HAR HQ5
  have HAB : Hid ((rs.all fun r => rightB r.h n d r.l) = false) := by
    cases hx : (rs.all fun r => rightB r.h n d r.l) with
    | false => rfl
    | true =>
      refine absurd (fun q hq => ?_) HR3.out
      obtain ⟨i, hi, rfl⟩ := List.getElem_of_mem hq
      have hi2 : i < rs.length := by have := HT.out.2.2.2; have := HRl.out; omega
      obtain ⟨e1, ⟨q, hq2, _, _, _, e5⟩, _⟩ := HT.out.1.each i _ (List.getElem?_eq_getElem hi2)
      rw [List.getElem?_eq_getElem hi] at hq2
      cases hq2
      have := List.all_eq_true.1 hx _ (List.getElem_mem hi2)
      rw [e1, e5] at this
      exact this
  rw [HAB.out] at HAR6
  clear HAB
  go_wp2_with fail
  refine HAR6.out.mono ?_
  rintro e w7 ⟨rfl, hk7⟩
  have HK7 : Hid (Keeps _ _ _) := hk7
  clear hk7 HAR6
  go_wp2
  go_ret
  exact ⟨rfl, H6.out.1.trans HK7.out fun _ _ e => e⟩

end Go.Proofs.Ytekijhhpldnmnaa
