import Derived.Test.YtohojpacijnnaaaDoorRead
import Derived.Laws.ResultCell
namespace Go.Proofs.YtohojpacijnnaaaDoor.Is
open Go.RowKit
set_option linter.unusedVariables false

/-- What is cut out of a word. -/
def rdOp (x : Nat) : Int := (x : Int) / 67108864
def rdA (x : Nat) : Int := if hasA (formOf (rdOp x)) then (x : Int) / 4194304 % 16 else 0
def rdB (x : Nat) : Int := if hasB (formOf (rdOp x)) then (x : Int) / 262144 % 16 else 0
def rdC (x : Nat) : Int := if hasC (formOf (rdOp x)) then (x : Int) / 16384 % 16 else 0
def rdI (x : Nat) : Int := if hasI (formOf (rdOp x)) then sgn18 ((x : Int) % 262144) else 0

theorem read_any (x : Nat) (hx : x < 4294967296) (w : World) (h : Tabs w) :
    Calls Tryd.prog 34 #[.int .u32 x] w fun e w' => e = .returned (insV (rdOp x) (rdA x) (rdB x) (rdC x) (rdI x)) ∧ Below w.heap.size w w' := by
  obtain ⟨k, hk, hk8⟩ := formOf_nat ((x : Int) / 67108864)
  have e : k = 0 ∨ k = 1 ∨ k = 2 ∨ k = 3 ∨ k = 4 ∨ k = 5 ∨ k = 6 ∨ k = 7 := by omega
  rcases e with rfl | rfl | rfl | rfl | rfl | rfl | rfl | rfl
  · have := read_none x hx w h 0 hk (by omega) rfl rfl rfl rfl
    simp only [rdOp, rdA, rdB, rdC, rdI, hk]
    exact this
  · have := read_none x hx w h 1 hk (by omega) rfl rfl rfl rfl
    simp only [rdOp, rdA, rdB, rdC, rdI, hk]
    exact this
  · have := read_a x hx w h 2 hk (by omega) rfl rfl rfl rfl
    simp only [rdOp, rdA, rdB, rdC, rdI, hk]
    exact this
  · have := read_ab x hx w h 3 hk (by omega) rfl rfl rfl rfl
    simp only [rdOp, rdA, rdB, rdC, rdI, hk]
    exact this
  · have := read_abc x hx w h 4 hk (by omega) rfl rfl rfl rfl
    simp only [rdOp, rdA, rdB, rdC, rdI, hk]
    exact this
  · have := read_ai x hx w h 5 hk (by omega) rfl rfl rfl rfl
    simp only [rdOp, rdA, rdB, rdC, rdI, hk]
    exact this
  · have := read_abi x hx w h 6 hk (by omega) rfl rfl rfl rfl
    simp only [rdOp, rdA, rdB, rdC, rdI, hk]
    exact this
  · have := read_i x hx w h 7 hk (by omega) rfl rfl rfl rfl
    simp only [rdOp, rdA, rdB, rdC, rdI, hk]
    exact this

/-- Is a word an instruction's? -/
def decOk (x : Nat) : Bool := okI (rdOp x) (rdA x) (rdB x) (rdC x) (rdI x) && wordI (rdOp x) (rdA x) (rdB x) (rdC x) (rdI x) == (x : Int)
def zeroV : Value := insV 0 0 0 0 0
def decV (x : Nat) : Value := if decOk x then insV (rdOp x) (rdA x) (rdB x) (rdC x) (rdI x) else zeroV
def decE (x : Nat) : Int := if decOk x then 0 else 20

theorem results_cell_two {P : Program} {fn : Func} {p u : Tmp} {ty : TypeId} (h : fn.results = #[.cell p ty, .tmp u]) (tmps : Array Value) (w : World) (g : Nat) (t : TypeId) (cs : Array Value) (fr : Nat × Nat) (d : TypeDesc)
    (hp : tmps.getD p undef = .pointer (some ⟨g, 0, none⟩)) (hg : w.heap[g]? = some (.cells cs t fr))
    (hu : P.underlying ty = some d) (hd : (match d with | .struct _ | .array _ _ => true | _ => false) = true) (hi : (P.info? ty).map (·.size) = some cs.size) :
    (results fn tmps).run P w = .ok (.tuple #[.agg cs, tmps.getD u undef]) w := by
  have hp' : tmps[p]?.getD undef = .pointer (some ⟨g, 0, none⟩) := by simpa using hp
  simp [results, h, hp', asAddr, run_loadVar_row w g t ty cs fr d hg hu hd hi]

/-- While Decode is under way. -/
structure DcS (w w' : World) (g0 g1 : Nat) (l : List Value) : Prop where
  r : Blk w' g0 [.int .i64 0, .int .i64 0, .int .i64 0, .int .i64 0, .int .i64 0] 40
  i : Blk w' g1 l 40
  bel : Below w.heap.size w w'
  lo : w.heap.size ≤ g0

theorem DcS.begin {w w1 w2 : World} {l : List Value} (hb : Below (w.alloc (.cells [.int .i64 0, .int .i64 0, .int .i64 0, .int .i64 0, .int .i64 0].toArray 40)).heap.size (w.alloc (.cells [.int .i64 0, .int .i64 0, .int .i64 0, .int .i64 0, .int .i64 0].toArray 40)) w1)
    (hc : Below (w1.alloc (.cells l.toArray 40)).heap.size (w1.alloc (.cells l.toArray 40)) w2) : DcS w w2 w.heap.size w1.heap.size l := by
  have b1 := (Blk.new w [.int .i64 0, .int .i64 0, .int .i64 0, .int .i64 0, .int .i64 0] 40).below hb
  have b2 := (b1.below (below_new w1 (.cells l.toArray 40))).below hc
  exact ⟨b2, (Blk.new w1 l 40).below hc, below_all (below_all (below_all (below_new w _) hb) (below_new w1 _)) hc, Nat.le_refl _⟩

theorem enc_cases (op a b c imm : Int) : (encE op a b c imm = 0 ∧ okI op a b c imm = true ∧ encW op a b c imm = wordI op a b c imm) ∨ (encE op a b c imm = 21 ∧ okI op a b c imm = false) := by
  cases h : okI op a b c imm <;> simp [encE, encW, h]

set_option maxHeartbeats 1000000 in
theorem dec_yes (x : Nat) (hx : x < 4294967296) (w : World) (h : Tabs w) (hy : okI (rdOp x) (rdA x) (rdB x) (rdC x) (rdI x) = true) (hw : wordI (rdOp x) (rdA x) (rdB x) (rdC x) (rdI x) = x) :
    Calls Tryd.prog 21 #[.int .u32 x] w fun e w' => e = .returned (.tuple #[insV (rdOp x) (rdA x) (rdB x) (rdC x) (rdI x), .int .i64 0]) ∧ Below w.heap.size w w' := by
  have hr := fun w h => read_any x hx w h
  have he := fun w h => enc_any (rdOp x) (rdA x) (rdB x) (rdC x) (rdI x) w h
  simp only [encW, encE, hy, hw, if_true] at he
  revert hr he
  clear hy hw
  generalize rdOp x = op
  generalize rdA x = a
  generalize rdB x = b
  generalize rdC x = c
  generalize rdI x = i
  unfold insV
  intro hr he
  have HR : Hid (∀ w h, Calls _ _ _ w _) := hr
  have HE : Hid (∀ w h, Calls _ _ _ w _) := he
  clear hr he
  go_enter Tryd.func21, Tryd.ntmps21
  go_wp2_with fail
  refine (HR.out _ (h.keep (below_new w _))).mono ?_
  rintro e w1 ⟨rfl, hb⟩
  have ht := (h.keep (below_new w _)).keep hb
  have HB : Hid (Below _ _ _) := hb
  have HT : Hid (Tabs _) := ht
  clear hb ht h
  go_wp2_with fail
  refine (HE.out _ (HT.out.keep (below_new w1 _))).mono ?_
  rintro e w2 ⟨rfl, hc⟩
  have hd := DcS.begin HB.out hc
  obtain ⟨g1, hg1⟩ : ∃ g1, g1 = w1.heap.size := ⟨_, rfl⟩
  obtain ⟨g0, hg0⟩ : ∃ g0, g0 = w.heap.size := ⟨_, rfl⟩
  rw [← hg1, ← hg0] at hd
  rw [← hg1, ← hg0]
  have HD : Hid (DcS _ _ _ _ _) := hd
  clear hd hc hg1 hg0 HB HT HR HE
  go_wp2_with (refine wpList_load_row rfl 40 (.tmp 4) rfl g1 rfl 40 _ (0, 0) _ HD.out.i Tryd.underlying40 rfl (by kernel_rfl) ?_; refine Hid.out ?_)
  unfold Hid
  refine wpList_store_row rfl rfl 40 (.tmp 2) (.tmp 22) rfl g0 rfl _ rfl _ 40 HD.out.r (by kernel_rfl) rfl rfl w.heap.size HD.out.lo ?_
  intro W3 hB hK hs
  have HF : Hid (Below w.heap.size w W3) := HD.out.bel.trans hK
  have HB : Hid (Blk _ _ _ _) := hB
  clear hB hK hs HD
  go_wp2
  refine bodyPost_ret (results_cell_two rfl _ _ g0 40 _ (0, 0) _ rfl HB.out Tryd.underlying40 rfl (by kernel_rfl)) rfl ?_
  exact ⟨rfl, HF.out⟩

set_option maxHeartbeats 1000000 in
theorem dec_no (x : Nat) (hx : x < 4294967296) (w : World) (h : Tabs w) (er wd : Int) (hy : encE (rdOp x) (rdA x) (rdB x) (rdC x) (rdI x) = er) (hw : encW (rdOp x) (rdA x) (rdB x) (rdC x) (rdI x) = wd) (hn : er = 21 ∨ er = 0 ∧ wd ≠ x) :
    Calls Tryd.prog 21 #[.int .u32 x] w fun e w' => e = .returned (.tuple #[zeroV, .int .i64 20]) ∧ Below w.heap.size w w' := by
  have hr := fun w h => read_any x hx w h
  have he := fun w h => enc_any (rdOp x) (rdA x) (rdB x) (rdC x) (rdI x) w h
  rw [hy, hw] at he
  unfold zeroV
  revert hr he
  clear hy hw
  generalize rdOp x = op
  generalize rdA x = a
  generalize rdB x = b
  generalize rdC x = c
  generalize rdI x = i
  unfold insV
  intro hr he
  have HR : Hid (∀ w h, Calls _ _ _ w _) := hr
  clear hr
  rcases hn with rfl | ⟨rfl, hne⟩
  all_goals (
    have HE : Hid (∀ w h, Calls _ _ _ w _) := he
    clear he
    go_enter Tryd.func21, Tryd.ntmps21
    go_wp2_with fail
    refine (HR.out _ (h.keep (below_new w _))).mono ?_
    rintro e w1 ⟨rfl, hb⟩
    have ht := (h.keep (below_new w _)).keep hb
    have HB : Hid (Below _ _ _) := hb
    have HT : Hid (Tabs _) := ht
    clear hb ht h
    go_wp2_with fail
    refine (HE.out _ (HT.out.keep (below_new w1 _))).mono ?_
    rintro e w2 ⟨rfl, hc⟩
    have hd := DcS.begin HB.out hc
    obtain ⟨g1, hg1⟩ : ∃ g1, g1 = w1.heap.size := ⟨_, rfl⟩
    obtain ⟨g0, hg0⟩ : ∃ g0, g0 = w.heap.size := ⟨_, rfl⟩
    rw [← hg1, ← hg0] at hd
    rw [← hg1, ← hg0]
    have HD : Hid (DcS _ _ _ _ _) := hd
    clear hd hc hg1 hg0 HB HT HR HE
    try (have hne' : (wd == (x : Int)) = false := by simpa using hne)
    go_wp2_with (refine wpList_store_row rfl rfl 40 (.tmp 2) (.tmp 21) rfl g0 rfl _ rfl _ 40 HD.out.r (by kernel_rfl) rfl rfl w.heap.size HD.out.lo ?_; intro W3 hB hK hs; refine Hid.out ?_)
    unfold Hid
    have HF : Hid (Below w.heap.size w W3) := HD.out.bel.trans hK
    have HB : Hid (Blk _ _ _ _) := hB
    clear hB hK hs HD
    go_wp2
    refine bodyPost_ret (results_cell_two rfl _ _ g0 40 _ (0, 0) _ rfl HB.out Tryd.underlying40 rfl (by kernel_rfl)) rfl ?_
    exact ⟨rfl, HF.out⟩)

/-- What Decode answers. -/
theorem dec_any (x : Nat) (hx : x < 4294967296) (w : World) (h : Tabs w) :
    Calls Tryd.prog 21 #[.int .u32 x] w fun e w' => e = .returned (.tuple #[decV x, .int .i64 (decE x)]) ∧ Below w.heap.size w w' := by
  rcases enc_cases (rdOp x) (rdA x) (rdB x) (rdC x) (rdI x) with ⟨e0, ok, e1⟩ | ⟨e0, ok⟩
  · by_cases hw : wordI (rdOp x) (rdA x) (rdB x) (rdC x) (rdI x) = x
    · have hd : decOk x = true := by simp [decOk, ok, hw]
      simpa [decV, decE, hd] using dec_yes x hx w h ok hw
    · have hd : decOk x = false := by simp [decOk, ok, hw]
      simpa [decV, decE, hd] using dec_no x hx w h 0 _ e0 e1 (.inr ⟨rfl, hw⟩)
  · have hd : decOk x = false := by simp [decOk, ok]
    simpa [decV, decE, hd] using dec_no x hx w h 21 _ e0 rfl (.inl rfl)
end Go.Proofs.YtohojpacijnnaaaDoor.Is
