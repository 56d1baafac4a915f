import Derived.Test.YtipejahmjdamjaaGreatDoorIsRead
import Derived.Laws.ResultCell
import Derived.Test.YtipejahmjdamjaaGreatDoorAd
import Derived.Test.YtipejahmjdamjaaGreatDoorChHo
import Derived.Test.YtipejahmjdamjaaGreatDoorTlLs
import Derived.Test.YtipejahmjdamjaaGreatDoorIsEncAll
import Derived.Deep.MidRow
import Derived.Deep.RegionHeld3
import Derived.StillTail
import Derived.StillTailTactics
namespace Go.Proofs.YtipejahmjdamjaaGreatDoor.Is
open Go.RowKit
set_option linter.unusedVariables false

/-- What is cut out of a word. -/
def rdOp (x : Nat) : Int := (x : Int) / 67108864
def rdA (x : Nat) : Int := if hasA (formOf (rdOp x)) then (x : Int) / 4194304 % 16 else 0
def rdB (x : Nat) : Int := if hasB (formOf (rdOp x)) then (x : Int) / 262144 % 16 else 0
def rdC (x : Nat) : Int := if hasC (formOf (rdOp x)) then (x : Int) / 16384 % 16 else 0
def rdI (x : Nat) : Int := if hasI (formOf (rdOp x)) then sgn18 ((x : Int) % 262144) else 0

theorem read_any (x : Nat) (hx : x < 4294967296) (w : World) (h : Tabs w) :
    Calls Tryz.prog 128 #[.int .u32 x] w fun e w' => e = .returned (insV (rdOp x) (rdA x) (rdB x) (rdC x) (rdI x)) ∧ Below w.heap.size w w' := by
  obtain ⟨k, hk, hk8⟩ := formOf_nat ((x : Int) / 67108864)
  have e : k = 0 ∨ k = 1 ∨ k = 2 ∨ k = 3 ∨ k = 4 ∨ k = 5 ∨ k = 6 ∨ k = 7 := by omega
  rcases e with rfl | rfl | rfl | rfl | rfl | rfl | rfl | rfl
  · have := read_none x hx w h 0 hk (by omega) rfl rfl rfl rfl
    simp only [rdOp, rdA, rdB, rdC, rdI, hk]
    exact this
  · have := read_none x hx w h 1 hk (by omega) rfl rfl rfl rfl
    simp only [rdOp, rdA, rdB, rdC, rdI, hk]
    exact this
  · have := read_a x hx w h 2 hk (by omega) rfl rfl rfl rfl
    simp only [rdOp, rdA, rdB, rdC, rdI, hk]
    exact this
  · have := read_ab x hx w h 3 hk (by omega) rfl rfl rfl rfl
    simp only [rdOp, rdA, rdB, rdC, rdI, hk]
    exact this
  · have := read_abc x hx w h 4 hk (by omega) rfl rfl rfl rfl
    simp only [rdOp, rdA, rdB, rdC, rdI, hk]
    exact this
  · have := read_ai x hx w h 5 hk (by omega) rfl rfl rfl rfl
    simp only [rdOp, rdA, rdB, rdC, rdI, hk]
    exact this
  · have := read_abi x hx w h 6 hk (by omega) rfl rfl rfl rfl
    simp only [rdOp, rdA, rdB, rdC, rdI, hk]
    exact this
  · have := read_i x hx w h 7 hk (by omega) rfl rfl rfl rfl
    simp only [rdOp, rdA, rdB, rdC, rdI, hk]
    exact this

/-- Is a word an instruction's? -/
def decOk (x : Nat) : Bool := okI (rdOp x) (rdA x) (rdB x) (rdC x) (rdI x) && wordI (rdOp x) (rdA x) (rdB x) (rdC x) (rdI x) == (x : Int)
def zeroV : Value := insV 0 0 0 0 0
def decV (x : Nat) : Value := if decOk x then insV (rdOp x) (rdA x) (rdB x) (rdC x) (rdI x) else zeroV
def decE (x : Nat) : Int := if decOk x then 0 else 20

theorem results_cell_two {P : Program} {fn : Func} {p u : Tmp} {ty : TypeId} (h : fn.results = #[.cell p ty, .tmp u]) (tmps : Array Value) (w : World) (g : Nat) (t : TypeId) (cs : Array Value) (fr : Nat × Nat) (d : TypeDesc)
    (hp : tmps.getD p undef = .pointer (some ⟨g, 0, none⟩)) (hg : w.heap[g]? = some (.cells cs t fr))
    (hu : P.underlying ty = some d) (hd : (match d with | .struct _ | .array _ _ => true | _ => false) = true) (hi : (P.info? ty).map (·.size) = some cs.size) :
    (results fn tmps).run P w = .ok (.tuple #[.agg cs, tmps.getD u undef]) w := by
  have hp' : tmps[p]?.getD undef = .pointer (some ⟨g, 0, none⟩) := by simpa using hp
  simp [results, h, hp', asAddr, run_loadVar_row w g t ty cs fr d hg hu hd hi]

/-- While Decode is under way. -/
structure DcS (w w' : World) (g0 g1 : Nat) (l : List Value) : Prop where
  r : Blk w' g0 [.int .i64 0, .int .i64 0, .int .i64 0, .int .i64 0, .int .i64 0] 111
  i : Blk w' g1 l 111
  bel : Below w.heap.size w w'
  lo : w.heap.size ≤ g0

theorem DcS.begin {w w1 w2 : World} {l : List Value} (hb : Below (w.alloc (.cells [.int .i64 0, .int .i64 0, .int .i64 0, .int .i64 0, .int .i64 0].toArray 111)).heap.size (w.alloc (.cells [.int .i64 0, .int .i64 0, .int .i64 0, .int .i64 0, .int .i64 0].toArray 111)) w1)
    (hc : Below (w1.alloc (.cells l.toArray 111)).heap.size (w1.alloc (.cells l.toArray 111)) w2) : DcS w w2 w.heap.size w1.heap.size l := by
  have b1 := (Blk.new w [.int .i64 0, .int .i64 0, .int .i64 0, .int .i64 0, .int .i64 0] 111).below hb
  have b2 := (b1.below (below_new w1 (.cells l.toArray 111))).below hc
  exact ⟨b2, (Blk.new w1 l 111).below hc, below_all (below_all (below_all (below_new w _) hb) (below_new w1 _)) hc, Nat.le_refl _⟩

theorem enc_cases (op a b c imm : Int) : (encE op a b c imm = 0 ∧ okI op a b c imm = true ∧ encW op a b c imm = wordI op a b c imm) ∨ (encE op a b c imm = 21 ∧ okI op a b c imm = false) := by
  cases h : okI op a b c imm <;> simp [encE, encW, h]

set_option maxHeartbeats 1000000 in
theorem dec_yes (x : Nat) (hx : x < 4294967296) (w : World) (h : Tabs w) (hy : okI (rdOp x) (rdA x) (rdB x) (rdC x) (rdI x) = true) (hw : wordI (rdOp x) (rdA x) (rdB x) (rdC x) (rdI x) = x) :
    Calls Tryz.prog 92 #[.int .u32 x] w fun e w' => e = .returned (.tuple #[insV (rdOp x) (rdA x) (rdB x) (rdC x) (rdI x), .int .i64 0]) ∧ Below w.heap.size w w' := by
  have hr := fun w h => read_any x hx w h
  have he := fun w h => enc_any (rdOp x) (rdA x) (rdB x) (rdC x) (rdI x) w h
  simp only [encW, encE, hy, hw, if_true] at he
  revert hr he
  clear hy hw
  generalize rdOp x = op
  generalize rdA x = a
  generalize rdB x = b
  generalize rdC x = c
  generalize rdI x = i
  unfold insV
  intro hr he
  have HR : Hid (∀ w h, Calls _ _ _ w _) := hr
  have HE : Hid (∀ w h, Calls _ _ _ w _) := he
  clear hr he
  go_enter Tryz.func92, Tryz.ntmps92
  go_wp2_with fail
  refine (HR.out _ (h.keep (below_new w _))).mono ?_
  rintro e w1 ⟨rfl, hb⟩
  have ht := (h.keep (below_new w _)).keep hb
  have HB : Hid (Below _ _ _) := hb
  have HT : Hid (Tabs _) := ht
  clear hb ht h
  go_wp2_with fail
  refine (HE.out _ (HT.out.keep (below_new w1 _))).mono ?_
  rintro e w2 ⟨rfl, hc⟩
  have hd := DcS.begin HB.out hc
  obtain ⟨g1, hg1⟩ : ∃ g1, g1 = w1.heap.size := ⟨_, rfl⟩
  obtain ⟨g0, hg0⟩ : ∃ g0, g0 = w.heap.size := ⟨_, rfl⟩
  rw [← hg1, ← hg0] at hd
  rw [← hg1, ← hg0]
  have HD : Hid (DcS _ _ _ _ _) := hd
  clear hd hc hg1 hg0 HB HT HR HE
  go_wp2_with (refine wpList_load_row rfl 111 (.tmp 4) rfl g1 rfl 111 _ (0, 0) _ HD.out.i Tryz.underlying111 rfl (by kernel_rfl) ?_; refine Hid.out ?_)
  unfold Hid
  refine wpList_store_row rfl rfl 111 (.tmp 2) (.tmp 22) rfl g0 rfl _ rfl _ 111 HD.out.r (by kernel_rfl) rfl rfl w.heap.size HD.out.lo ?_
  intro W3 hB hK hs
  have HF : Hid (Below w.heap.size w W3) := HD.out.bel.trans hK
  have HB : Hid (Blk _ _ _ _) := hB
  clear hB hK hs HD
  go_wp2
  refine bodyPost_ret (results_cell_two rfl _ _ g0 111 _ (0, 0) _ rfl HB.out Tryz.underlying111 rfl (by kernel_rfl)) rfl ?_
  exact ⟨rfl, HF.out⟩

set_option maxHeartbeats 1000000 in
theorem dec_no (x : Nat) (hx : x < 4294967296) (w : World) (h : Tabs w) (er wd : Int) (hy : encE (rdOp x) (rdA x) (rdB x) (rdC x) (rdI x) = er) (hw : encW (rdOp x) (rdA x) (rdB x) (rdC x) (rdI x) = wd) (hn : er = 21 ∨ er = 0 ∧ wd ≠ x) :
    Calls Tryz.prog 92 #[.int .u32 x] w fun e w' => e = .returned (.tuple #[zeroV, .int .i64 20]) ∧ Below w.heap.size w w' := by
  have hr := fun w h => read_any x hx w h
  have he := fun w h => enc_any (rdOp x) (rdA x) (rdB x) (rdC x) (rdI x) w h
  rw [hy, hw] at he
  unfold zeroV
  revert hr he
  clear hy hw
  generalize rdOp x = op
  generalize rdA x = a
  generalize rdB x = b
  generalize rdC x = c
  generalize rdI x = i
  unfold insV
  intro hr he
  have HR : Hid (∀ w h, Calls _ _ _ w _) := hr
  clear hr
  rcases hn with rfl | ⟨rfl, hne⟩
  all_goals (
    have HE : Hid (∀ w h, Calls _ _ _ w _) := he
    clear he
    go_enter Tryz.func92, Tryz.ntmps92
    go_wp2_with fail
    refine (HR.out _ (h.keep (below_new w _))).mono ?_
    rintro e w1 ⟨rfl, hb⟩
    have ht := (h.keep (below_new w _)).keep hb
    have HB : Hid (Below _ _ _) := hb
    have HT : Hid (Tabs _) := ht
    clear hb ht h
    go_wp2_with fail
    refine (HE.out _ (HT.out.keep (below_new w1 _))).mono ?_
    rintro e w2 ⟨rfl, hc⟩
    have hd := DcS.begin HB.out hc
    obtain ⟨g1, hg1⟩ : ∃ g1, g1 = w1.heap.size := ⟨_, rfl⟩
    obtain ⟨g0, hg0⟩ : ∃ g0, g0 = w.heap.size := ⟨_, rfl⟩
    rw [← hg1, ← hg0] at hd
    rw [← hg1, ← hg0]
    have HD : Hid (DcS _ _ _ _ _) := hd
    clear hd hc hg1 hg0 HB HT HR HE
    try (have hne' : (wd == (x : Int)) = false := by simpa using hne)
    go_wp2_with (refine wpList_store_row rfl rfl 111 (.tmp 2) (.tmp 21) rfl g0 rfl _ rfl _ 111 HD.out.r (by kernel_rfl) rfl rfl w.heap.size HD.out.lo ?_; intro W3 hB hK hs; refine Hid.out ?_)
    unfold Hid
    have HF : Hid (Below w.heap.size w W3) := HD.out.bel.trans hK
    have HB : Hid (Blk _ _ _ _) := hB
    clear hB hK hs HD
    go_wp2
    refine bodyPost_ret (results_cell_two rfl _ _ g0 111 _ (0, 0) _ rfl HB.out Tryz.underlying111 rfl (by kernel_rfl)) rfl ?_
    exact ⟨rfl, HF.out⟩)

/-- What Decode answers. -/
theorem dec_any (x : Nat) (hx : x < 4294967296) (w : World) (h : Tabs w) :
    Calls Tryz.prog 92 #[.int .u32 x] w fun e w' => e = .returned (.tuple #[decV x, .int .i64 (decE x)]) ∧ Below w.heap.size w w' := by
  rcases enc_cases (rdOp x) (rdA x) (rdB x) (rdC x) (rdI x) with ⟨e0, ok, e1⟩ | ⟨e0, ok⟩
  · by_cases hw : wordI (rdOp x) (rdA x) (rdB x) (rdC x) (rdI x) = x
    · have hd : decOk x = true := by simp [decOk, ok, hw]
      simpa [decV, decE, hd] using dec_yes x hx w h ok hw
    · have hd : decOk x = false := by simp [decOk, ok, hw]
      simpa [decV, decE, hd] using dec_no x hx w h 0 _ e0 e1 (.inr ⟨rfl, hw⟩)
  · have hd : decOk x = false := by simp [decOk, ok]
    simpa [decV, decE, hd] using dec_no x hx w h 21 _ e0 rfl (.inl rfl)
end Go.Proofs.YtipejahmjdamjaaGreatDoor.Is
namespace Go.Proofs.YtipejahmjdamjaaGreatDoor
open Go.RowKit Go.Shelf
set_option linter.unusedVariables false
set_option maxRecDepth 6000

abbrev ptr (b : Nat) : Value := .pointer (some ⟨b, 0, none⟩)

/-- What stands in the block of an instruction under way. -/
structure Sp where
  rg : List UInt32
  pc : Nat
  c : Nat
  m : Nat
  root : Nat
  clock : Nat
  op : Nat
  a : Nat
  b : Nat
  d : Nat
  imm : Int
  cost : Int
  trap : Nat
  call : Int
  apc : Nat
  word : Nat
  rd : Bool
  addr : Nat
  val : Nat

def Sp.tail (t : Sp) : List Value := [.int .u32 t.pc, ptr t.c, ptr t.m, .int .i64 t.root, .int .u32 t.clock, .int .i64 t.op, .int .i64 t.a, .int .i64 t.b, .int .i64 t.d, .int .i64 t.imm,
  .int .i64 t.cost, .int .i64 t.trap, .int .i64 t.call, .int .u32 t.apc, .int .u32 t.word, .bool t.rd, .int .u32 t.addr, .int .u32 t.val]
def Sp.cells (t : Sp) : List Value := wvs t.rg ++ t.tail

/-- It lies in block s. -/
structure SpAt (w : World) (s : Nat) (t : Sp) : Prop where
  blk : Blk w s t.cells 113
  len : t.rg.length = 16
  la : t.a < 16
  lb : t.b < 16
  ld : t.d < 16

theorem SpAt.kept {S : Nat → Prop} {w w' : World} {s : Nat} {t : Sp} (h : SpAt w s t) (hK : Keeps S w w') (hn : ¬ S s) : SpAt w' s t := ⟨h.blk.kept hK hn, h.len, h.la, h.lb, h.ld⟩

theorem SpAt.get {w : World} {s : Nat} {t : Sp} (h : SpAt w s t) (j : Nat) {v : Value} (hv : t.tail[j]? = some v) : w.cell? ⟨s, 16 + j, none⟩ = some v := by
  refine h.blk.cell ?_
  rw [Sp.cells, List.getElem?_append_right (by rw [wvs_length, h.len]; omega), wvs_length, h.len, Nat.add_sub_cancel_left]
  exact hv

theorem SpAt.reg {w : World} {s : Nat} {t : Sp} (h : SpAt w s t) (i : Nat) (hi : i < 16) : w.cell? ⟨s, i, none⟩ = some (.int .u32 ((t.rg.getD i 0).toNat : Int)) := by
  refine h.blk.cell ?_
  have hl := h.len
  rw [Sp.cells, List.getElem?_append_left (by rw [wvs_length]; omega), wvs_get _ _ (by omega)]
  rw [List.getD_eq_getElem?_getD, List.getElem?_eq_getElem (by omega)]; rfl

theorem SpAt.set {w : World} {s : Nat} {t : Sp} (h : SpAt w s t) (j : Nat) (v : Value) (t' : Sp) (hv : t.tail.set j v = t'.tail) (hr : t'.rg = t.rg) (h1 : t'.a < 16) (h2 : t'.b < 16) (h3 : t'.d < 16) : SpAt (w.setCell ⟨s, 16 + j, none⟩ v) s t' := by
  refine ⟨?_, by rw [hr]; exact h.len, h1, h2, h3⟩
  have := h.blk.setCell (16 + j) v
  rw [Sp.cells, List.set_append_right _ _ (by rw [wvs_length, h.len]; omega), wvs_length, h.len, Nat.add_sub_cancel_left, hv] at this
  rw [Sp.cells, hr]
  exact this

theorem wvs_set (xs : List UInt32) (i : Nat) (x : UInt32) : (wvs xs).set i (.int .u32 (x.toNat : Int)) = wvs (xs.set i x) := by
  rw [wvs, wvs, List.map_set]

theorem SpAt.setReg {w : World} {s : Nat} {t : Sp} (h : SpAt w s t) (i : Nat) (hi : i < 16) (x : UInt32) : SpAt (w.setCell ⟨s, i, none⟩ (.int .u32 (x.toNat : Int))) s { t with rg := t.rg.set i x } := by
  have hl := h.len
  refine ⟨?_, by simpa using h.len, h.la, h.lb, h.ld⟩
  have := h.blk.setCell i (.int .u32 (x.toNat : Int))
  rw [Sp.cells, List.set_append_left _ _ (by rw [wvs_length]; omega), wvs_set] at this
  exact this

theorem SpAt.frozen {w : World} {s : Nat} {t : Sp} (h : SpAt w s t) (i : Nat) : w.frozen? ⟨s, i, none⟩ = false := h.blk.frozen i

theorem ra_any (s : Nat) (t : Sp) (w : World) (h : SpAt w s t) : Calls Tryz.prog 188 #[ptr s] w fun e w' => e = .returned (.int .u32 ((t.rg.getD t.a 0).toNat : Int)) ∧ ∃ k, w' = w.drewN k := by
  have c1 : w.cell? ⟨s, 22, none⟩ = some (.int .i64 t.a) := h.get 6 rfl
  have c2 := h.reg t.a h.la
  have hb : (t.a : Int) < 16 := by have := h.la; omega
  obtain ⟨b, eb⟩ : ∃ b, b = t.a := ⟨_, rfl⟩
  obtain ⟨v, ev⟩ : ∃ v, v = (t.rg.getD t.a 0).toNat := ⟨_, rfl⟩
  rw [← eb] at c1 c2 hb
  rw [← ev]
  rw [← eb] at ev
  rw [← ev] at c2
  clear h ev eb
  go_enter Tryz.func188, Tryz.ntmps188
  go_wp2
  go_quiet (fail)
  go_wp2
  go_ret
  exact ⟨rfl, _, rfl⟩

theorem rb_any (s : Nat) (t : Sp) (w : World) (h : SpAt w s t) : Calls Tryz.prog 184 #[ptr s] w fun e w' => e = .returned (.int .u32 ((t.rg.getD t.b 0).toNat : Int)) ∧ ∃ k, w' = w.drewN k := by
  have c1 : w.cell? ⟨s, 23, none⟩ = some (.int .i64 t.b) := h.get 7 rfl
  have c2 := h.reg t.b h.lb
  have hb : (t.b : Int) < 16 := by have := h.lb; omega
  obtain ⟨b, eb⟩ : ∃ b, b = t.b := ⟨_, rfl⟩
  obtain ⟨v, ev⟩ : ∃ v, v = (t.rg.getD t.b 0).toNat := ⟨_, rfl⟩
  rw [← eb] at c1 c2 hb
  rw [← ev]
  rw [← eb] at ev
  rw [← ev] at c2
  clear h ev eb
  go_enter Tryz.func184, Tryz.ntmps184
  go_wp2
  go_quiet (fail)
  go_wp2
  go_ret
  exact ⟨rfl, _, rfl⟩

theorem rc_any (s : Nat) (t : Sp) (w : World) (h : SpAt w s t) : Calls Tryz.prog 187 #[ptr s] w fun e w' => e = .returned (.int .u32 ((t.rg.getD t.d 0).toNat : Int)) ∧ ∃ k, w' = w.drewN k := by
  have c1 : w.cell? ⟨s, 24, none⟩ = some (.int .i64 t.d) := h.get 8 rfl
  have c2 := h.reg t.d h.ld
  have hb : (t.d : Int) < 16 := by have := h.ld; omega
  obtain ⟨b, eb⟩ : ∃ b, b = t.d := ⟨_, rfl⟩
  obtain ⟨v, ev⟩ : ∃ v, v = (t.rg.getD t.d 0).toNat := ⟨_, rfl⟩
  rw [← eb] at c1 c2 hb
  rw [← ev]
  rw [← eb] at ev
  rw [← ev] at c2
  clear h ev eb
  go_enter Tryz.func187, Tryz.ntmps187
  go_wp2
  go_quiet (fail)
  go_wp2
  go_ret
  exact ⟨rfl, _, rfl⟩

/-- A number as a word. -/
def wd (n : Int) : Nat := (n % 4294967296).toNat
theorem wd_cast (n : Int) : ((wd n : Nat) : Int) = n % 4294967296 := by unfold wd; omega
theorem wd_lt (n : Int) : wd n < 4294967296 := by unfold wd; omega

/-- A call that changes nothing, in whatever order its fellows go. -/
def Quiet (f : Nat) (args : Array Value) (v : Value) (w : World) : Prop := ∀ k, Calls Tryz.prog f args (w.drewN k) fun e w' => e = .returned v ∧ ∃ n, w' = w.drewN n
theorem quiet_of {f : Nat} {args : Array Value} {v : Value} {w : World} (h : ∀ k, Calls Tryz.prog f args (w.drewN k) fun e w' => e = .returned v ∧ ∃ n, w' = (w.drewN k).drewN n) : Quiet f args v w := fun k =>
  (h k).mono fun e w' ⟨h1, n, h2⟩ => ⟨h1, k + n, by rw [h2, World.drewN_drewN]⟩
theorem quiet_eq {f : Nat} {args : Array Value} {v : Value} {w : World} (h : ∀ k, Calls Tryz.prog f args (w.drewN k) fun e w' => e = .returned v ∧ w' = w.drewN k) : Quiet f args v w := fun k =>
  (h k).mono fun e w' ⟨h1, h2⟩ => ⟨h1, k, h2⟩
theorem Quiet.at {f : Nat} {args : Array Value} {v : Value} {w : World} (h : Quiet f args v w) (k : Nat) : Calls Tryz.prog f args (w.drewN k) fun e w' => e = .returned v ∧ ∃ n, w' = w.drewN n := h k
theorem SpAt.drewN {w : World} {s : Nat} {t : Sp} (h : SpAt w s t) (k : Nat) : SpAt (w.drewN k) s t := h.kept ((Keeps.refl (fun _ => False) w).drewN k) fun h => h

theorem imm_any (s : Nat) (t : Sp) (w : World) (h : SpAt w s t) : Calls Tryz.prog 185 #[ptr s] w fun e w' => e = .returned (.int .u32 (wd t.imm : Nat)) ∧ ∃ k, w' = w.drewN k := by
  have c1 : w.cell? ⟨s, 25, none⟩ = some (.int .i64 t.imm) := h.get 9 rfl
  rw [wd_cast]
  obtain ⟨v, ev⟩ : ∃ v, v = t.imm := ⟨_, rfl⟩
  rw [← ev] at c1 ⊢
  clear h ev
  go_enter Tryz.func185, Tryz.ntmps185
  go_wp2
  go_ret
  exact ⟨rfl, 0, rfl⟩

theorem away_any (s : Nat) (t : Sp) (w : World) (h : SpAt w s t) : Calls Tryz.prog 191 #[ptr s] w fun e w' => e = .returned (.int .u32 (wd (t.apc + wd t.imm) : Nat)) ∧ ∃ k, w' = w.drewN k := by
  have c1 : w.cell? ⟨s, 29, none⟩ = some (.int .u32 t.apc) := h.get 13 rfl
  have HI : Hid (Quiet 185 #[ptr s] (.int .u32 (wd t.imm : Nat)) w) := quiet_of fun k => imm_any s t (w.drewN k) (h.drewN k)
  rw [wd_cast (_ + _)]
  obtain ⟨v, ev⟩ : ∃ v, v = t.apc := ⟨_, rfl⟩
  obtain ⟨i, ei⟩ : ∃ i, i = wd t.imm := ⟨_, rfl⟩
  rw [← ev] at c1 ⊢
  rw [← ei] at HI ⊢
  clear h ev ei
  go_enter Tryz.func191, Tryz.ntmps191
  go_wp2_with fail
  go_quiet (exact HI.out.at _)
  go_wp2
  go_ret
  exact ⟨rfl, _, rfl⟩

theorem put_any (s v : Nat) (t : Sp) (w : World) (h : SpAt w s t) (hv : v < 4294967296) : Calls Tryz.prog 183 #[ptr s, .int .u32 v] w fun e w' => e = .returned (.int .i64 0) ∧ SpAt w' s { t with rg := t.rg.set t.a (UInt32.ofNat v) } ∧ Keeps (· = s) w w' := by
  have c1 : w.cell? ⟨s, 22, none⟩ = some (.int .i64 t.a) := h.get 6 rfl
  have c2 := h.reg t.a h.la
  have f2 := h.frozen t.a
  have hb : (t.a : Int) < 16 := by have := h.la; omega
  have HS : Hid (∀ k, SpAt ((w.drewN k).setCell ⟨s, t.a, none⟩ (.int .u32 v)) s { t with rg := t.rg.set t.a (UInt32.ofNat v) } ∧ Keeps (· = s) w ((w.drewN k).setCell ⟨s, t.a, none⟩ (.int .u32 v))) := fun k => by
    have := (h.kept ((Keeps.refl (fun _ => False) w).drewN k) fun h => h).setReg t.a h.la (UInt32.ofNat v)
    rw [UInt32.toNat_ofNat_of_lt' (by simpa using hv)] at this
    exact ⟨this, ((Keeps.refl _ w).drewN k).setCell _ _ fun _ => rfl⟩
  obtain ⟨b, eb⟩ : ∃ b, b = t.a := ⟨_, rfl⟩
  obtain ⟨u, eu⟩ : ∃ u, u = (t.rg.getD t.a 0).toNat := ⟨_, rfl⟩
  obtain ⟨T, eT⟩ : ∃ T : Sp, T = { t with rg := t.rg.set t.a (UInt32.ofNat v) } := ⟨_, rfl⟩
  rw [← eT] at HS ⊢
  rw [← eu] at c2
  rw [← eb] at c1 c2 hb f2 HS
  clear h eu eb eT
  go_enter Tryz.func183, Tryz.ntmps183
  go_wp2_with fail
  refine Ch.region_tail 11 (by kernel_rfl) ?_
  simp only [List.take_succ_cons, List.take_zero, List.drop_succ_cons, List.drop_zero]
  repeat still_step
  refine wpStill_nil ?_
  go_wp2
  go_ret
  exact ⟨rfl, HS.out 1⟩

theorem goOn_any (s v : Nat) (t : Sp) (w : World) (h : SpAt w s t) : Calls Tryz.prog 190 #[ptr s, .int .u32 v] w fun e w' => e = .returned (.int .i64 0) ∧ SpAt w' s { t with pc := v } ∧ Keeps (· = s) w w' := by
  have c1 : w.cell? ⟨s, 16, none⟩ = some (.int .u32 t.pc) := h.get 0 rfl
  have f1 := h.frozen 16
  have HS : Hid (SpAt (w.setCell ⟨s, 16, none⟩ (.int .u32 v)) s { t with pc := v } ∧ Keeps (· = s) w (w.setCell ⟨s, 16, none⟩ (.int .u32 v))) :=
    ⟨h.set 0 _ _ rfl rfl h.la h.lb h.ld, (Keeps.refl _ w).setCell _ _ fun _ => rfl⟩
  obtain ⟨T, eT⟩ : ∃ T : Sp, T = { t with pc := v } := ⟨_, rfl⟩
  obtain ⟨u, eu⟩ : ∃ u, u = t.pc := ⟨_, rfl⟩
  rw [← eT] at HS ⊢
  rw [← eu] at c1
  clear h eT eu
  go_enter Tryz.func190, Tryz.ntmps190
  go_wp2
  go_ret
  exact ⟨rfl, HS.out⟩

end Go.Proofs.YtipejahmjdamjaaGreatDoor
namespace Go.Proofs.YtipejahmjdamjaaGreatDoor
open Go.RowKit Go.Shelf
set_option linter.unusedVariables false
set_option maxRecDepth 6000

/-- What an operation beside the memory does: its trap, and the block behind it. -/
def Did (f s : Nat) (t t' : Sp) (trap : Nat) (w : World) : Prop := Calls Tryz.prog f #[ptr s] w fun e w' => e = .returned (.int .i64 trap) ∧ SpAt w' s t' ∧ Keeps (· = s) w w'

theorem keeps_drewN_trans {s : Nat} {w w2 : World} {k : Nat} (h : Keeps (· = s) (w.drewN k) w2) : Keeps (· = s) w w2 := ⟨h.os, h.tape, h.output, h.size, h.block⟩

theorem rg_lt (x : UInt32) : x.toNat < 4294967296 := x.toNat_lt

theorem nothing_did (s : Nat) (t : Sp) (w : World) (h : SpAt w s t) : Did 130 s t t 0 w := by
  have HS : Hid (SpAt w s t ∧ Keeps (· = s) w w) := ⟨h, Keeps.refl _ w⟩
  clear h
  unfold Did
  go_enter Tryz.func130, Tryz.ntmps130
  go_wp2
  go_ret
  exact ⟨rfl, HS.out⟩

theorem move_did (s : Nat) (t : Sp) (w : World) (h : SpAt w s t) : Did 131 s t { t with rg := t.rg.set t.a (t.rg.getD t.b 0) } 0 w := by
  have HB : Hid (Calls _ _ _ _ _) := rb_any s t w h
  have HP : Hid (∀ k, Calls Tryz.prog 183 _ (w.drewN k) _) := fun k => put_any s _ t (w.drewN k) (h.drewN k) (rg_lt (t.rg.getD t.b 0))
  rw [UInt32.ofNat_toNat] at HP
  obtain ⟨T, eT⟩ : ∃ T : Sp, T = { t with rg := t.rg.set t.a (t.rg.getD t.b 0) } := ⟨_, rfl⟩
  obtain ⟨v, ev⟩ : ∃ v, v = (t.rg.getD t.b 0).toNat := ⟨_, rfl⟩
  rw [← eT] at HP ⊢
  rw [← ev] at HP HB
  clear h eT ev
  unfold Did
  go_enter Tryz.func131, Tryz.ntmps131
  go_wp2_with fail
  refine HB.out.mono ?_
  rintro e w1 ⟨rfl, k, rfl⟩
  go_wp2_with fail
  refine (HP.out k).mono ?_
  rintro e w2 ⟨rfl, h2, hK⟩
  have HE : Hid (SpAt w2 s T ∧ Keeps (· = s) w w2) := ⟨h2, keeps_drewN_trans hK⟩
  clear h2 hK HP HB
  go_wp2
  go_ret
  exact ⟨rfl, HE.out⟩

theorem ofNat_wd (n : Int) : (wd n) < 4294967296 := wd_lt n

theorem low_did (s : Nat) (t : Sp) (w : World) (h : SpAt w s t) : Did 132 s t { t with rg := t.rg.set t.a (UInt32.ofNat (wd t.imm)) } 0 w := by
  have HB : Hid (Calls _ _ _ _ _) := imm_any s t w h
  have HP : Hid (∀ k, Calls Tryz.prog 183 _ (w.drewN k) _) := fun k => put_any s _ t (w.drewN k) (h.drewN k) (wd_lt t.imm)
  obtain ⟨T, eT⟩ : ∃ T : Sp, T = { t with rg := t.rg.set t.a (UInt32.ofNat (wd t.imm)) } := ⟨_, rfl⟩
  obtain ⟨v, ev⟩ : ∃ v, v = wd t.imm := ⟨_, rfl⟩
  rw [← eT] at HP ⊢
  rw [← ev] at HP HB
  clear h eT ev
  unfold Did
  go_enter Tryz.func132, Tryz.ntmps132
  go_wp2_with fail
  refine HB.out.mono ?_
  rintro e w1 ⟨rfl, k, rfl⟩
  go_wp2_with fail
  refine (HP.out k).mono ?_
  rintro e w2 ⟨rfl, h2, hK⟩
  have HE : Hid (SpAt w2 s T ∧ Keeps (· = s) w w2) := ⟨h2, keeps_drewN_trans hK⟩
  clear h2 hK HP
  go_wp2
  go_ret
  exact ⟨rfl, HE.out⟩

theorem high_did (s : Nat) (t : Sp) (w : World) (h : SpAt w s t) : Did 133 s t { t with rg := t.rg.set t.a (UInt32.ofNat (wd (wd t.imm * 16384))) } 0 w := by
  have HB : Hid (Calls _ _ _ _ _) := imm_any s t w h
  have HP : Hid (∀ k, Calls Tryz.prog 183 _ (w.drewN k) _) := fun k => put_any s _ t (w.drewN k) (h.drewN k) (wd_lt (wd t.imm * 16384))
  obtain ⟨T, eT⟩ : ∃ T : Sp, T = { t with rg := t.rg.set t.a (UInt32.ofNat (wd (wd t.imm * 16384))) } := ⟨_, rfl⟩
  rw [← eT] at HP ⊢
  obtain ⟨v, ev⟩ : ∃ v, v = wd t.imm := ⟨_, rfl⟩
  rw [← ev] at HP HB
  obtain ⟨u, eu⟩ : ∃ u, u = wd ((v : Int) * 16384) := ⟨_, rfl⟩
  rw [← eu] at HP
  have hu := wd_cast ((v : Int) * 16384)
  rw [← eu] at hu
  have HU : Hid ((u : Int) = (v : Int) * 16384 % 4294967296) := hu
  clear h eT ev eu hu
  unfold Did
  go_enter Tryz.func133, Tryz.ntmps133
  go_wp2_with fail
  refine HB.out.mono ?_
  rintro e w1 ⟨rfl, k, rfl⟩
  go_wp2_with fail
  rw [← HU.out]
  refine (HP.out k).mono ?_
  rintro e w2 ⟨rfl, h2, hK⟩
  have HE : Hid (SpAt w2 s T ∧ Keeps (· = s) w w2) := ⟨h2, keeps_drewN_trans hK⟩
  clear h2 hK HP
  go_wp2
  go_ret
  exact ⟨rfl, HE.out⟩

theorem addImm_did (s : Nat) (t : Sp) (w : World) (h : SpAt w s t) : Did 135 s t { t with rg := t.rg.set t.a (UInt32.ofNat (wd ((t.rg.getD t.b 0).toNat + wd t.imm))) } 0 w := by
  have HB : Hid (Calls _ _ _ _ _) := rb_any s t w h
  have HI : Hid (∀ k, Calls Tryz.prog 185 _ (w.drewN k) _) := fun k => imm_any s t (w.drewN k) (h.drewN k)
  have HP : Hid (∀ k, Calls Tryz.prog 183 _ (w.drewN k) _) := fun k => put_any s _ t (w.drewN k) (h.drewN k) (wd_lt ((t.rg.getD t.b 0).toNat + wd t.imm))
  obtain ⟨T, eT⟩ : ∃ T : Sp, T = { t with rg := t.rg.set t.a (UInt32.ofNat (wd ((t.rg.getD t.b 0).toNat + wd t.imm))) } := ⟨_, rfl⟩
  rw [← eT] at HP ⊢
  obtain ⟨v, ev⟩ : ∃ v, v = wd t.imm := ⟨_, rfl⟩
  obtain ⟨b, eb⟩ : ∃ b, b = (t.rg.getD t.b 0).toNat := ⟨_, rfl⟩
  rw [← ev] at HP HI
  rw [← eb] at HP HB
  obtain ⟨u, eu⟩ : ∃ u, u = wd ((b : Int) + v) := ⟨_, rfl⟩
  rw [← eu] at HP
  have hu := wd_cast ((b : Int) + v)
  rw [← eu] at hu
  have HU : Hid ((u : Int) = ((b : Int) + v) % 4294967296) := hu
  clear h eT ev eu hu eb
  unfold Did
  go_enter Tryz.func135, Tryz.ntmps135
  go_wp2_with fail
  refine HB.out.mono ?_
  rintro e w1 ⟨rfl, k, rfl⟩
  go_wp2_with fail
  refine (HI.out k).mono ?_
  rintro e w1 ⟨rfl, k2, rfl⟩
  rw [World.drewN_drewN]
  go_wp2_with fail
  rw [← HU.out]
  refine (HP.out _).mono ?_
  rintro e w2 ⟨rfl, h2, hK⟩
  have HE : Hid (SpAt w2 s T ∧ Keeps (· = s) w w2) := ⟨h2, keeps_drewN_trans hK⟩
  clear h2 hK HP
  go_wp2
  go_ret
  exact ⟨rfl, HE.out⟩

theorem cycles_did (s : Nat) (t : Sp) (w : World) (h : SpAt w s t) (hc : t.clock < 4294967296) : Did 142 s t { t with rg := t.rg.set t.a (UInt32.ofNat t.clock) } 0 w := by
  have c1 : w.cell? ⟨s, 20, none⟩ = some (.int .u32 t.clock) := h.get 4 rfl
  have HP : Hid (Calls Tryz.prog 183 _ w _) := put_any s _ t w h hc
  obtain ⟨T, eT⟩ : ∃ T : Sp, T = { t with rg := t.rg.set t.a (UInt32.ofNat t.clock) } := ⟨_, rfl⟩
  rw [← eT] at HP ⊢
  obtain ⟨v, ev⟩ : ∃ v, v = t.clock := ⟨_, rfl⟩
  rw [← ev] at HP c1
  clear h eT ev hc
  unfold Did
  go_enter Tryz.func142, Tryz.ntmps142
  go_wp2_with fail
  refine HP.out.mono ?_
  rintro e w2 ⟨rfl, h2, hK⟩
  have HE : Hid (SpAt w2 s T ∧ Keeps (· = s) w w2) := ⟨h2, hK⟩
  clear h2 hK HP
  go_wp2
  go_ret
  exact ⟨rfl, HE.out⟩

theorem jump_did (s : Nat) (t : Sp) (w : World) (h : SpAt w s t) : Did 139 s t { t with pc := wd (t.apc + wd t.imm) } 0 w := by
  have HB : Hid (Calls _ _ _ _ _) := away_any s t w h
  have HP : Hid (∀ k, Calls Tryz.prog 190 _ (w.drewN k) _) := fun k => goOn_any s (wd (t.apc + wd t.imm)) t (w.drewN k) (h.drewN k)
  obtain ⟨T, eT⟩ : ∃ T : Sp, T = { t with pc := wd (t.apc + wd t.imm) } := ⟨_, rfl⟩
  rw [← eT] at HP ⊢
  obtain ⟨v, ev⟩ : ∃ v, v = wd (t.apc + wd t.imm) := ⟨_, rfl⟩
  rw [← ev] at HP HB
  clear h eT ev
  unfold Did
  go_enter Tryz.func139, Tryz.ntmps139
  go_wp2_with fail
  refine HB.out.mono ?_
  rintro e w1 ⟨rfl, k, rfl⟩
  go_wp2_with fail
  refine (HP.out k).mono ?_
  rintro e w2 ⟨rfl, h2, hK⟩
  have HE : Hid (SpAt w2 s T ∧ Keeps (· = s) w w2) := ⟨h2, keeps_drewN_trans hK⟩
  clear h2 hK HP
  go_wp2
  go_ret
  exact ⟨rfl, HE.out⟩

theorem jumpR_did (s : Nat) (t : Sp) (w : World) (h : SpAt w s t) : Did 141 s t { t with pc := (t.rg.getD t.a 0).toNat } 0 w := by
  have HB : Hid (Calls _ _ _ _ _) := ra_any s t w h
  have HP : Hid (∀ k, Calls Tryz.prog 190 _ (w.drewN k) _) := fun k => goOn_any s (t.rg.getD t.a 0).toNat t (w.drewN k) (h.drewN k)
  obtain ⟨T, eT⟩ : ∃ T : Sp, T = { t with pc := (t.rg.getD t.a 0).toNat } := ⟨_, rfl⟩
  rw [← eT] at HP ⊢
  obtain ⟨v, ev⟩ : ∃ v, v = (t.rg.getD t.a 0).toNat := ⟨_, rfl⟩
  rw [← ev] at HP HB
  clear h eT ev
  unfold Did
  go_enter Tryz.func141, Tryz.ntmps141
  go_wp2_with fail
  refine HB.out.mono ?_
  rintro e w1 ⟨rfl, k, rfl⟩
  go_wp2_with fail
  refine (HP.out k).mono ?_
  rintro e w2 ⟨rfl, h2, hK⟩
  have HE : Hid (SpAt w2 s T ∧ Keeps (· = s) w w2) := ⟨h2, keeps_drewN_trans hK⟩
  clear h2 hK HP
  go_wp2
  go_ret
  exact ⟨rfl, HE.out⟩

theorem jumpL_walk (s u v p : Nat) (T1 T : Sp) (w : World) (c1 : w.cell? ⟨s, 29, none⟩ = some (.int .u32 p)) (HU : Hid ((u : Int) = ((p : Int) + 1) % 4294967296))
    (HP : Hid (Calls Tryz.prog 183 #[ptr s, .int .u32 u] w fun e w' => e = .returned (.int .i64 0) ∧ SpAt w' s T1 ∧ Keeps (· = s) w w'))
    (HA : Hid (∀ w1, SpAt w1 s T1 → Calls Tryz.prog 191 #[ptr s] w1 fun e w' => e = .returned (.int .u32 v) ∧ ∃ k, w' = w1.drewN k))
    (HG : Hid (∀ w1, SpAt w1 s T1 → Calls Tryz.prog 190 #[ptr s, .int .u32 v] w1 fun e w' => e = .returned (.int .i64 0) ∧ SpAt w' s T ∧ Keeps (· = s) w1 w')) :
    Calls Tryz.prog 140 #[ptr s] w fun e w' => e = .returned (.int .i64 0) ∧ SpAt w' s T ∧ Keeps (· = s) w w' := by
  go_enter Tryz.func140, Tryz.ntmps140
  go_wp2_with fail
  rw [← HU.out]
  refine HP.out.mono ?_
  rintro e w1 ⟨rfl, h1, hK1⟩
  have H1 : Hid (SpAt w1 s T1 ∧ Keeps (· = s) w w1) := ⟨h1, hK1⟩
  clear h1 hK1 c1
  go_wp2_with fail
  refine (HA.out _ H1.out.1).mono ?_
  rintro e w1' ⟨rfl, k, rfl⟩
  go_wp2_with fail
  refine (HG.out _ (H1.out.1.drewN k)).mono ?_
  rintro e w2 ⟨rfl, h2, hK⟩
  have HE : Hid (SpAt w2 s T ∧ Keeps (· = s) w w2) := ⟨h2, H1.out.2.trans (keeps_drewN_trans hK) fun _ _ h => h⟩
  clear h2 hK HP
  go_wp2
  go_ret
  exact ⟨rfl, HE.out⟩

theorem jumpL_did (s : Nat) (t : Sp) (w : World) (h : SpAt w s t) : Did 140 s t { t with rg := t.rg.set t.a (UInt32.ofNat (wd (t.apc + 1))), pc := wd (t.apc + wd t.imm) } 0 w :=
  jumpL_walk s (wd (t.apc + 1)) (wd (t.apc + wd t.imm)) t.apc { t with rg := t.rg.set t.a (UInt32.ofNat (wd (t.apc + 1))) } _ w (h.get 13 rfl) (wd_cast _) (put_any s _ t w h (wd_lt _))
    (fun w1 h1 => away_any s { t with rg := t.rg.set t.a (UInt32.ofNat (wd (t.apc + 1))) } w1 h1) (fun w1 h1 => goOn_any s _ { t with rg := t.rg.set t.a (UInt32.ofNat (wd (t.apc + 1))) } w1 h1)

theorem call_no (s : Nat) (t : Sp) (w : World) (h : SpAt w s t) (hi : ¬ (0 ≤ t.imm ∧ t.imm < 8)) : Did 143 s t t 6 w := by
  have c1 : w.cell? ⟨s, 25, none⟩ = some (.int .i64 t.imm) := h.get 9 rfl
  have HE : Hid (SpAt w s t ∧ Keeps (· = s) w w) := ⟨h, Keeps.refl _ w⟩
  obtain ⟨v, ev⟩ : ∃ v, v = t.imm := ⟨_, rfl⟩
  rw [← ev] at c1 hi
  clear h ev
  unfold Did
  by_cases h0 : v < 0
  · have g1 : decide (v < 0) = true := decide_eq_true h0
    go_enter Tryz.func143, Tryz.ntmps143
    go_wp2
    go_ret
    exact ⟨rfl, HE.out⟩
  · have g1 : decide (v < 0) = false := decide_eq_false h0
    have g2 : decide (8 ≤ v) = true := decide_eq_true (by omega)
    go_enter Tryz.func143, Tryz.ntmps143
    go_wp2
    go_ret
    exact ⟨rfl, HE.out⟩

theorem call_yes (s : Nat) (t : Sp) (w : World) (h : SpAt w s t) (hi : 0 ≤ t.imm ∧ t.imm < 8) : Did 143 s t { t with call := t.imm } 0 w := by
  have c1 : w.cell? ⟨s, 25, none⟩ = some (.int .i64 t.imm) := h.get 9 rfl
  have c2 : w.cell? ⟨s, 28, none⟩ = some (.int .i64 t.call) := h.get 12 rfl
  have f2 := h.frozen 28
  have HE : Hid (SpAt (w.setCell ⟨s, 28, none⟩ (.int .i64 t.imm)) s { t with call := t.imm } ∧ Keeps (· = s) w (w.setCell ⟨s, 28, none⟩ (.int .i64 t.imm))) :=
    ⟨h.set 12 _ _ rfl rfl h.la h.lb h.ld, (Keeps.refl _ w).setCell _ _ fun _ => rfl⟩
  obtain ⟨T, eT⟩ : ∃ T : Sp, T = { t with call := t.imm } := ⟨_, rfl⟩
  rw [← eT] at HE ⊢
  obtain ⟨v, ev⟩ : ∃ v, v = t.imm := ⟨_, rfl⟩
  obtain ⟨u, eu⟩ : ∃ u, u = t.call := ⟨_, rfl⟩
  rw [← ev] at c1 hi HE
  rw [← eu] at c2
  have g1 : decide (v < 0) = false := decide_eq_false (by omega)
  have g2 : decide (8 ≤ v) = false := decide_eq_false (by omega)
  clear h ev eu eT hi
  unfold Did
  go_enter Tryz.func143, Tryz.ntmps143
  go_wp2
  go_ret
  exact ⟨rfl, HE.out⟩

end Go.Proofs.YtipejahmjdamjaaGreatDoor
namespace Go.Proofs.YtipejahmjdamjaaGreatDoor
open Go.RowKit Go.Shelf
set_option linter.unusedVariables false
set_option maxRecDepth 6000

theorem reckon_no (s : Nat) (t : Sp) (w : World) (h : SpAt w s t) (hd : Al.doE t.op (t.rg.getD t.d 0).toNat ≠ 0) : Did 134 s t t 5 w := by
  have c1 : w.cell? ⟨s, 21, none⟩ = some (.int .i64 t.op) := h.get 5 rfl
  have HB : Hid (Quiet 184 #[ptr s] (.int .u32 ((t.rg.getD t.b 0).toNat : Int)) w) := quiet_of fun k => rb_any s t (w.drewN k) (h.drewN k)
  have HC : Hid (Quiet 187 #[ptr s] (.int .u32 ((t.rg.getD t.d 0).toNat : Int)) w) := quiet_of fun k => rc_any s t (w.drewN k) (h.drewN k)
  have HD : Hid (Quiet 186 #[.int .i64 t.op, .int .u32 ((t.rg.getD t.b 0).toNat : Int), .int .u32 ((t.rg.getD t.d 0).toNat : Int)] _ w) := quiet_eq fun k => Al.do_any t.op _ _ (w.drewN k) (rg_lt _) (rg_lt _)
  have HE : Hid (∀ k, SpAt (w.drewN k) s t ∧ Keeps (· = s) w (w.drewN k)) := fun k => ⟨h.drewN k, (Keeps.refl _ w).drewN k⟩
  have g1 : (Al.doE t.op (t.rg.getD t.d 0).toNat != 0) = true := by simpa using hd
  obtain ⟨b, eb⟩ : ∃ b, b = (t.rg.getD t.b 0).toNat := ⟨_, rfl⟩
  obtain ⟨d, ed⟩ : ∃ d, d = (t.rg.getD t.d 0).toNat := ⟨_, rfl⟩
  obtain ⟨o, eo⟩ : ∃ o, o = t.op := ⟨_, rfl⟩
  rw [← eb] at HB HD
  rw [← ed] at HC HD g1
  rw [← eo] at c1 HD g1
  obtain ⟨E, eE⟩ : ∃ E, E = Al.doE o d := ⟨_, rfl⟩
  obtain ⟨V, eV⟩ : ∃ V, V = Al.doW o b d := ⟨_, rfl⟩
  rw [← eE] at HD g1
  rw [← eV] at HD
  clear h hd eb ed eo eE eV
  unfold Did
  go_enter Tryz.func134, Tryz.ntmps134
  go_wp2_with fail
  go_quiet (first | exact HB.out.at _ | exact HC.out.at _ | exact HD.out.at _)
  go_wp2
  go_ret
  exact ⟨rfl, HE.out _⟩

theorem reckon_yes (s : Nat) (t : Sp) (w : World) (h : SpAt w s t) (hd : Al.doE t.op (t.rg.getD t.d 0).toNat = 0) (hw : Al.doW t.op (t.rg.getD t.b 0).toNat (t.rg.getD t.d 0).toNat < 4294967296) :
    Did 134 s t { t with rg := t.rg.set t.a (UInt32.ofNat (Al.doW t.op (t.rg.getD t.b 0).toNat (t.rg.getD t.d 0).toNat)) } 0 w := by
  have c1 : w.cell? ⟨s, 21, none⟩ = some (.int .i64 t.op) := h.get 5 rfl
  have HB : Hid (Quiet 184 #[ptr s] (.int .u32 ((t.rg.getD t.b 0).toNat : Int)) w) := quiet_of fun k => rb_any s t (w.drewN k) (h.drewN k)
  have HC : Hid (Quiet 187 #[ptr s] (.int .u32 ((t.rg.getD t.d 0).toNat : Int)) w) := quiet_of fun k => rc_any s t (w.drewN k) (h.drewN k)
  have HD : Hid (Quiet 186 #[.int .i64 t.op, .int .u32 ((t.rg.getD t.b 0).toNat : Int), .int .u32 ((t.rg.getD t.d 0).toNat : Int)] _ w) := quiet_eq fun k => Al.do_any t.op _ _ (w.drewN k) (rg_lt _) (rg_lt _)
  have HP : Hid (∀ k, Calls Tryz.prog 183 _ (w.drewN k) _) := fun k => put_any s (Al.doW t.op (t.rg.getD t.b 0).toNat (t.rg.getD t.d 0).toNat) t (w.drewN k) (h.drewN k) hw
  obtain ⟨T, eT⟩ : ∃ T : Sp, T = { t with rg := t.rg.set t.a (UInt32.ofNat (Al.doW t.op (t.rg.getD t.b 0).toNat (t.rg.getD t.d 0).toNat)) } := ⟨_, rfl⟩
  rw [← eT] at HP ⊢
  rw [hd] at HD
  obtain ⟨b, eb⟩ : ∃ b, b = (t.rg.getD t.b 0).toNat := ⟨_, rfl⟩
  obtain ⟨d, ed⟩ : ∃ d, d = (t.rg.getD t.d 0).toNat := ⟨_, rfl⟩
  obtain ⟨o, eo⟩ : ∃ o, o = t.op := ⟨_, rfl⟩
  rw [← eb] at HB HD HP
  rw [← ed] at HC HD HP
  rw [← eo] at c1 HD HP
  obtain ⟨V, eV⟩ : ∃ V, V = Al.doW o b d := ⟨_, rfl⟩
  rw [← eV] at HD HP
  clear h hd eb ed eo eV eT hw
  unfold Did
  go_enter Tryz.func134, Tryz.ntmps134
  go_wp2_with fail
  go_quiet (first | exact HB.out.at _ | exact HC.out.at _ | exact HD.out.at _)
  go_wp2_with fail
  refine (HP.out _).mono ?_
  rintro e w2 ⟨rfl, h2, hK⟩
  have HE : Hid (SpAt w2 s T ∧ Keeps (· = s) w w2) := ⟨h2, keeps_drewN_trans hK⟩
  clear h2 hK HP
  go_wp2
  go_ret
  exact ⟨rfl, HE.out⟩

theorem branch_did (s : Nat) (t : Sp) (w : World) (h : SpAt w s t) :
    Did 138 s t (if Al.takeV t.op (t.rg.getD t.a 0).toNat (t.rg.getD t.b 0).toNat then { t with pc := wd (t.apc + wd t.imm) } else t) 0 w := by
  have c1 : w.cell? ⟨s, 21, none⟩ = some (.int .i64 t.op) := h.get 5 rfl
  have HA : Hid (Quiet 188 #[ptr s] (.int .u32 ((t.rg.getD t.a 0).toNat : Int)) w) := quiet_of fun k => ra_any s t (w.drewN k) (h.drewN k)
  have HB : Hid (Quiet 184 #[ptr s] (.int .u32 ((t.rg.getD t.b 0).toNat : Int)) w) := quiet_of fun k => rb_any s t (w.drewN k) (h.drewN k)
  have HD : Hid (Quiet 189 #[.int .i64 t.op, .int .u32 ((t.rg.getD t.a 0).toNat : Int), .int .u32 ((t.rg.getD t.b 0).toNat : Int)] _ w) := quiet_eq fun k => Al.takes_any t.op _ _ (w.drewN k) (rg_lt _) (rg_lt _)
  have HW : Hid (∀ k, Calls Tryz.prog 191 _ (w.drewN k) _) := fun k => away_any s t (w.drewN k) (h.drewN k)
  have HG : Hid (∀ k, Calls Tryz.prog 190 _ (w.drewN k) _) := fun k => goOn_any s (wd (t.apc + wd t.imm)) t (w.drewN k) (h.drewN k)
  have HE : Hid (∀ k, SpAt (w.drewN k) s t ∧ Keeps (· = s) w (w.drewN k)) := fun k => ⟨h.drewN k, (Keeps.refl _ w).drewN k⟩
  obtain ⟨T, eT⟩ : ∃ T : Sp, T = { t with pc := wd (t.apc + wd t.imm) } := ⟨_, rfl⟩
  rw [← eT] at HG ⊢
  obtain ⟨p, ep⟩ : ∃ p, p = wd (t.apc + wd t.imm) := ⟨_, rfl⟩
  rw [← ep] at HG HW
  obtain ⟨a, ea⟩ : ∃ a, a = (t.rg.getD t.a 0).toNat := ⟨_, rfl⟩
  obtain ⟨b, eb⟩ : ∃ b, b = (t.rg.getD t.b 0).toNat := ⟨_, rfl⟩
  obtain ⟨o, eo⟩ : ∃ o, o = t.op := ⟨_, rfl⟩
  rw [← ea] at HA HD ⊢
  rw [← eb] at HB HD ⊢
  rw [← eo] at c1 HD ⊢
  obtain ⟨V, eV⟩ : ∃ V, V = Al.takeV o a b := ⟨_, rfl⟩
  obtain ⟨E, eE⟩ : ∃ E, E = Al.takeE o := ⟨_, rfl⟩
  rw [← eV] at HD ⊢
  rw [← eE] at HD
  clear h eb ea eo eV eT eE ep
  unfold Did
  cases V with
  | false =>
    go_enter Tryz.func138, Tryz.ntmps138
    go_wp2_with fail
    go_quiet (first | exact HA.out.at _ | exact HB.out.at _ | exact HD.out.at _)
    go_wp2
    go_ret
    exact ⟨rfl, HE.out _⟩
  | true =>
    go_enter Tryz.func138, Tryz.ntmps138
    go_wp2_with fail
    go_quiet (first | exact HA.out.at _ | exact HB.out.at _ | exact HD.out.at _)
    go_wp2_with fail
    refine (HW.out _).mono ?_
    rintro e w1 ⟨rfl, k, rfl⟩
    rw [World.drewN_drewN]
    go_wp2_with fail
    refine (HG.out _).mono ?_
    rintro e w2 ⟨rfl, h2, hK⟩
    have HZ : Hid (SpAt w2 s T ∧ Keeps (· = s) w w2) := ⟨h2, keeps_drewN_trans hK⟩
    clear h2 hK HG
    go_wp2
    go_ret
    exact ⟨rfl, HZ.out⟩

end Go.Proofs.YtipejahmjdamjaaGreatDoor
