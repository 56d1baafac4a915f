import Derived.Test.YtmkeccibminnhaaWalkE
import Derived.Laws.BytesString
namespace Go.Proofs.Ytmkeccibminnhaa
open Go.RowKit
set_option maxRecDepth 6000

section
variable {P : Program} {w : World}
theorem wpList_convert_run {ops : Array Oper} {rest : List Oper} {o : Oper} {a : Act} {Q : Exit → Act → World → Prop} (hgd : o.guard = none) (s : Operand) (t k : TypeId)
    (ho : o.op = .convert t k s) (vs v' : Value) (w' : World) (hs : a.eval s = vs)
    (hr : (convert t k vs).run P w = .ok v' w') (h : wpList P ops Q rest (a.put o.dst v') w') : wpList P ops Q (o :: rest) a w :=
  wpList_plain hgd fun _ hK => by
    unfold Oper.wp execOp
    simp only [ho, hs, Sem.run_bind, hr, Result.andThen_ok, Sem.run_pure]
    exact hK _ _ h

theorem foldl_push (xs : List UInt8) : ∀ s : ByteArray, (xs.map fun x => (x.toNat : Int)).foldl (fun r n => r.push (UInt8.ofNat n.toNat)) s = ⟨s.data ++ xs.toArray⟩ := by
  induction xs with
  | nil => intro s; simp
  | cons x r ih =>
    intro s
    simp only [List.map_cons, List.foldl_cons]
    rw [ih]
    have : UInt8.ofNat ((x.toNat : Int)).toNat = x := by simp
    rw [this]
    simp [ByteArray.push]

theorem run_text_of (src dst e : TypeId) (hs : P.underlying src = some (.slice e)) (he : P.underlying e = some (.int .u8)) (hd : P.underlying dst = some .string)
    (g o c : Nat) (l : List Value) (t : TypeId) (hg : Blk w g l t) (xs : List UInt8) (hx : xs = [] ∨ (l.drop o).take xs.length = bvs xs) :
    (convert src dst (.slice (some ⟨g, o, none⟩) xs.length c)).run P w = .ok (.string ⟨xs.toArray⟩) w := by
  rw [run_convert_bytes_string w src dst e _ _ _ hs he hd]
  have hb : bvs xs = (xs.map fun x => (x.toNat : Int)).map (Value.int .u8) := by simp [bvs]
  have hl := run_loadCells_list (P := P) w ⟨g, o, none⟩ (bvs xs) (by
    intro j v hj
    rcases hx with hx | hx
    · subst hx; simp [bvs] at hj
    · rw [← hx, List.getElem?_take] at hj
      split at hj
      · rw [List.getElem?_drop] at hj
        rw [addr_add]
        exact hg.cell hj
      · cases hj)
  rw [bvs_length, hb] at hl
  rw [run_bytesToString w _ _ _ _ hl, foldl_push]
  simp [ByteArray.empty, ByteArray.emptyWithCapacity]
  rfl
end

set_option maxHeartbeats 400000 in
theorem rText_fault (b g p : Nat) (er most : Int) (xs : List UInt8) (w : World) (h : Rd w b g xs p er) (he : (numE xs p er 4 != 0) = true) :
    Calls Try.prog 89 #[.pointer (some ⟨b, 0, none⟩), .int .i64 most] w fun e w' => e = .returned (.string ⟨#[]⟩) ∧ Rd w' b g xs (numP xs p er 4) (numE xs p er 4) ∧ Keeps (· = b) w w' := by
  have hlt := numV_lt xs p er 4
  go_enter Try.func89, Try.ntmps89
  go_wp2_with (first | (go_at_call 65; refine (rAt_any b g p er xs _ h).mono ?_; rintro e w' ⟨rfl, hw'⟩; obtain rfl := hw'.symm) | (go_at_call 67; refine (rU32_any b g p er xs _ h).mono ?_; rintro e w1 ⟨rfl, hr, hK⟩) | (go_at_call 82; refine (rFault_any b g _ _ xs _ hr).mono ?_; rintro e w' ⟨rfl, hw'⟩; obtain rfl := hw'.symm))
  go_ret
  exact ⟨rfl, hr, hK⟩

set_option maxHeartbeats 400000 in
theorem rText_most (b g p N : Nat) (most : Int) (xs : List UInt8) (w : World) (hRd : Rd w b g xs p 0) (hp : p + 4 ≤ xs.length) (hN : N = highN ((xs.drop p).take 4)) (hm : max most 0 < (N : Int)) :
    Calls Try.prog 89 #[.pointer (some ⟨b, 0, none⟩), .int .i64 most] w fun e w' => e = .returned (.string ⟨#[]⟩) ∧ Rd w' b g xs p 14 ∧ Keeps (· = b) w w' := by
  have h1 : ¬ xs.length < p + 4 := by omega
  have hV : numV xs p 0 4 = N := by simp [numV, h1, hN]
  have hP : numP xs p 0 4 = p + 4 := by simp [numP, h1]
  have hE : numE xs p 0 4 = 0 := by simp [numE, h1]
  have hlt := numV_lt xs p 0 4
  rw [hV] at hlt
  have hU := rU32_any b g p 0 xs w hRd
  rw [hV, hP, hE] at hU
  have HU : Hid (Calls _ _ _ _ _) := hU
  clear hU hV hP hE hN h1
  go_enter Try.func89, Try.ntmps89
  go_wp2_with (first | (go_at_call 65; refine (rAt_any b g p 0 xs _ hRd).mono ?_; rintro e w' ⟨rfl, hw'⟩; obtain rfl := hw'.symm) | (go_at_call 67; refine HU.out.mono ?_; rintro e w1 ⟨rfl, hr, hK⟩) | (go_at_call 82; refine (rFault_any b g _ _ xs _ hr).mono ?_; rintro e w' ⟨rfl, hw'⟩; obtain rfl := hw'.symm) | (go_at_call 96; refine Hid.out ?_))
  all_goals
    unfold Hid
    refine (refuse_any b p 14 ((p + 4 : Nat) : Int) _ _ (hr.blk.cell (i := 1) rfl) (hr.blk.cell (i := 2) rfl) (hr.blk.frozen 1) (hr.blk.frozen 2)).mono ?_
    rintro e w' ⟨rfl, hw'⟩
    have hR := hr.set p 14 hRd.le
    have hK2 := ((hK.setCell ⟨b, 1, none⟩ (.int .i64 p) fun _ => rfl).setCell ⟨b, 2, none⟩ (.int .i64 14) fun _ => rfl)
    rw [← hw'] at hR hK2
    have HR : Hid (Rd _ _ _ _ _ _) := hR
    have HK : Hid (Keeps _ _ _) := hK2
    clear hw' hR hK2
    go_wp2
    go_ret
    exact ⟨rfl, HR.out, HK.out⟩

set_option maxHeartbeats 400000 in
theorem rText_short (b g p N : Nat) (most : Int) (xs : List UInt8) (w : World) (hRd : Rd w b g xs p 0) (hp : p + 4 ≤ xs.length) (hN : N = highN ((xs.drop p).take 4)) (hm : ¬ max most 0 < (N : Int)) (hs : xs.length < p + 4 + N) :
    Calls Try.prog 89 #[.pointer (some ⟨b, 0, none⟩), .int .i64 most] w fun e w' => e = .returned (.string ⟨#[]⟩) ∧ Rd w' b g xs p 12 ∧ Keeps (· = b) w w' := by
  have h1 : ¬ xs.length < p + 4 := by omega
  have hV : numV xs p 0 4 = N := by simp [numV, h1, hN]
  have hP : numP xs p 0 4 = p + 4 := by simp [numP, h1]
  have hE : numE xs p 0 4 = 0 := by simp [numE, h1]
  have hlt := numV_lt xs p 0 4
  rw [hV] at hlt
  have hU := rU32_any b g p 0 xs w hRd
  rw [hV, hP, hE] at hU
  have HU : Hid (Calls _ _ _ _ _) := hU
  have hlm := hRd.len
  unfold maxLen at hlm
  have hgt : (xs.length : Int) - ((p + 4 : Nat) : Int) < (N : Int) := by omega
  clear hU hV hP hE hN h1
  go_enter Try.func89, Try.ntmps89
  go_wp2_with (first | (go_at_call 65; refine (rAt_any b g p 0 xs _ hRd).mono ?_; rintro e w' ⟨rfl, hw'⟩; obtain rfl := hw'.symm) | (go_at_call 67; refine HU.out.mono ?_; rintro e w1 ⟨rfl, hr, hK⟩) | (go_at_call 82; refine (rFault_any b g _ _ xs _ hr).mono ?_; rintro e w' ⟨rfl, hw'⟩; obtain rfl := hw'.symm) | (go_at_call 94; refine (left_any b _ xs.length _ (p + 4) _ (hr.blk.cell (i := 0) rfl) (hr.blk.cell (i := 1) rfl) hRd.len hp).mono ?_; rintro e w' ⟨rfl, hw'⟩; obtain rfl := hw'.symm) | (go_at_call 96; refine Hid.out ?_))
  all_goals
    unfold Hid
    refine (refuse_any b p 12 ((p + 4 : Nat) : Int) _ _ (hr.blk.cell (i := 1) rfl) (hr.blk.cell (i := 2) rfl) (hr.blk.frozen 1) (hr.blk.frozen 2)).mono ?_
    rintro e w' ⟨rfl, hw'⟩
    have hR := hr.set p 12 hRd.le
    have hK2 := ((hK.setCell ⟨b, 1, none⟩ (.int .i64 p) fun _ => rfl).setCell ⟨b, 2, none⟩ (.int .i64 12) fun _ => rfl)
    rw [← hw'] at hR hK2
    have HR : Hid (Rd _ _ _ _ _ _) := hR
    have HK : Hid (Keeps _ _ _) := hK2
    clear hw' hR hK2
    go_wp2
    go_ret
    exact ⟨rfl, HR.out, HK.out⟩

set_option maxHeartbeats 400000 in
theorem rText_ok (b g p N : Nat) (most : Int) (xs : List UInt8) (w : World) (hRd : Rd w b g xs p 0) (hp : p + 4 + N ≤ xs.length) (hN : N = highN ((xs.drop p).take 4)) (hm : ¬ max most 0 < (N : Int)) :
    Calls Try.prog 89 #[.pointer (some ⟨b, 0, none⟩), .int .i64 most] w fun e w' => e = .returned (.string ⟨((xs.drop (p + 4)).take N).toArray⟩) ∧ Rd w' b g xs (p + 4 + N) 0 ∧ Keeps (· = b) w w' := by
  have h1 : ¬ xs.length < p + 4 := by omega
  have hV : numV xs p 0 4 = N := by simp [numV, h1, hN]
  have hP : numP xs p 0 4 = p + 4 := by simp [numP, h1]
  have hE : numE xs p 0 4 = 0 := by simp [numE, h1]
  have hlt := numV_lt xs p 0 4
  rw [hV] at hlt
  have hU := rU32_any b g p 0 xs w hRd
  rw [hV, hP, hE] at hU
  have HU : Hid (Calls _ _ _ _ _) := hU
  have hlm := hRd.len
  unfold maxLen at hlm
  have hgt : ¬ (xs.length : Int) - ((p + 4 : Nat) : Int) < (N : Int) := by omega
  clear hU hV hP hE hN h1
  go_enter Try.func89, Try.ntmps89
  go_wp2_with (first | (go_at_call 65; refine (rAt_any b g p 0 xs _ hRd).mono ?_; rintro e w' ⟨rfl, hw'⟩; obtain rfl := hw'.symm) | (go_at_call 67; refine HU.out.mono ?_; rintro e w1 ⟨rfl, hr, hK⟩) | (go_at_call 82; refine (rFault_any b g _ _ xs _ hr).mono ?_; rintro e w' ⟨rfl, hw'⟩; obtain rfl := hw'.symm) | (go_at_call 94; refine (left_any b _ xs.length _ (p + 4) _ (hr.blk.cell (i := 0) rfl) (hr.blk.cell (i := 1) rfl) hRd.len (by omega)).mono ?_; rintro e w' ⟨rfl, hw'⟩; obtain rfl := hw'.symm) | (go_at_call 79; refine Hid.out ?_))
  all_goals
    unfold Hid
    refine (next_any b g 0 xs.length xs.length (p + 4) N _ (hr.blk.cell (i := 0) rfl) (hr.blk.cell (i := 1) rfl) (hr.blk.frozen 1) hp (Nat.le_refl _) hRd.len).mono ?_
    rintro e w' ⟨⟨x, rfl, hx⟩, j, hw'⟩
    have hR := hr.go (p + 4 + N) hp
    have hK2 := hK.setCell ⟨b, 1, none⟩ (.int .i64 ((p + 4 + N : Nat) : Int)) fun _ => rfl
    have hR' : Rd w' b g xs (p + 4 + N) 0 := by rw [hw']; exact ⟨hR.ne, hR.blk, hR.bytes, hR.len, hR.le⟩
    have hK' : Keeps (· = b) w w' := by rw [hw']; exact hK2.drewN j
    have hlen : ((xs.drop (p + 4)).take N).length = N := by rw [List.length_take, List.length_drop]; omega
    have hcv := run_text_of (P := Try.prog) (w := w') 27 9 5 Try.underlying27 Try.underlying5 Try.underlying9 g x (xs.length - (p + 4)) (bvs xs) 5 hR'.bytes ((xs.drop (p + 4)).take N) (by
      rcases hx with hx | hx
      · right; rw [hlen, hx, Nat.zero_add, bvs_take, bvs_drop]
      · left; exact List.eq_nil_of_length_eq_zero (by omega))
    rw [hlen] at hcv
    have HC : Hid (_ = _) := hcv
    have HR : Hid (Rd _ _ _ _ _ _) := hR'
    have HK : Hid (Keeps _ _ _) := hK'
    clear hw' hR hK2 hR' hK' hlen hcv hr hK
    go_wp2_with (refine wpList_convert_run rfl (.tmp 35) 27 9 rfl (.slice (some ⟨g, x, none⟩) N (xs.length - (p + 4))) _ w' rfl HC.out ?_)
    go_ret
    exact ⟨rfl, HR.out, HK.out⟩

/-- What Text answers, and where it leaves the reader. -/
def txtN (xs : List UInt8) (p : Nat) : Nat := highN ((xs.drop p).take 4)
def txtE (xs : List UInt8) (p : Nat) (er most : Int) : Int :=
  if er ≠ 0 then er else if xs.length < p + 4 then 12 else if max most 0 < (txtN xs p : Int) then 14 else if xs.length < p + 4 + txtN xs p then 12 else 0
def txtOk (xs : List UInt8) (p : Nat) (er most : Int) : Prop := er = 0 ∧ p + 4 ≤ xs.length ∧ ¬ max most 0 < (txtN xs p : Int) ∧ p + 4 + txtN xs p ≤ xs.length
def txtV (xs : List UInt8) (p : Nat) (er most : Int) : List UInt8 := if txtE xs p er most = 0 then (xs.drop (p + 4)).take (txtN xs p) else []
def txtP (xs : List UInt8) (p : Nat) (er most : Int) : Nat := if txtE xs p er most = 0 then p + 4 + txtN xs p else p

theorem rText_any (b g p : Nat) (er most : Int) (xs : List UInt8) (w : World) (hRd : Rd w b g xs p er) :
    Calls Try.prog 89 #[.pointer (some ⟨b, 0, none⟩), .int .i64 most] w fun e w' => e = .returned (.string ⟨(txtV xs p er most).toArray⟩) ∧ Rd w' b g xs (txtP xs p er most) (txtE xs p er most) ∧ Keeps (· = b) w w' := by
  by_cases he : er ≠ 0
  · have e1 : txtE xs p er most = er := by unfold txtE; rw [if_pos he]
    have e2 : txtV xs p er most = [] := by unfold txtV; rw [e1, if_neg he]
    have e3 : txtP xs p er most = p := by unfold txtP; rw [e1, if_neg he]
    have n1 : numE xs p er 4 = er := by unfold numE; rw [if_pos he]
    have n2 : numP xs p er 4 = p := by unfold numP; rw [if_pos he]
    have := rText_fault b g p er most xs w hRd (by rw [n1]; simpa using he)
    rw [n1, n2] at this
    rw [e1, e2, e3]
    exact this
  · obtain rfl : er = 0 := by omega
    by_cases h4 : xs.length < p + 4
    · have e1 : txtE xs p 0 most = 12 := by unfold txtE; rw [if_neg he, if_pos h4]
      have e2 : txtV xs p 0 most = [] := by unfold txtV; rw [e1, if_neg (by decide)]
      have e3 : txtP xs p 0 most = p := by unfold txtP; rw [e1, if_neg (by decide)]
      have n1 : numE xs p 0 4 = 12 := by unfold numE; rw [if_neg he, if_pos h4]
      have n2 : numP xs p 0 4 = p := by unfold numP; rw [if_neg he, if_pos h4]
      have := rText_fault b g p 0 most xs w hRd (by rw [n1]; decide)
      rw [n1, n2] at this
      rw [e1, e2, e3]
      exact this
    · by_cases hm : max most 0 < (txtN xs p : Int)
      · have e1 : txtE xs p 0 most = 14 := by unfold txtE; rw [if_neg he, if_neg h4, if_pos hm]
        have e2 : txtV xs p 0 most = [] := by unfold txtV; rw [e1, if_neg (by decide)]
        have e3 : txtP xs p 0 most = p := by unfold txtP; rw [e1, if_neg (by decide)]
        rw [e1, e2, e3]
        exact rText_most b g p (txtN xs p) most xs w hRd (by omega) rfl hm
      · by_cases hs : xs.length < p + 4 + txtN xs p
        · have e1 : txtE xs p 0 most = 12 := by unfold txtE; rw [if_neg he, if_neg h4, if_neg hm, if_pos hs]
          have e2 : txtV xs p 0 most = [] := by unfold txtV; rw [e1, if_neg (by decide)]
          have e3 : txtP xs p 0 most = p := by unfold txtP; rw [e1, if_neg (by decide)]
          rw [e1, e2, e3]
          exact rText_short b g p (txtN xs p) most xs w hRd (by omega) rfl hm hs
        · have e1 : txtE xs p 0 most = 0 := by unfold txtE; rw [if_neg he, if_neg h4, if_neg hm, if_neg hs]
          have e2 : txtV xs p 0 most = (xs.drop (p + 4)).take (txtN xs p) := by unfold txtV; rw [e1, if_pos rfl]
          have e3 : txtP xs p 0 most = p + 4 + txtN xs p := by unfold txtP; rw [e1, if_pos rfl]
          rw [e1, e2, e3]
          exact rText_ok b g p (txtN xs p) most xs w hRd (by omega) rfl hm

def endE (xs : List UInt8) (p : Nat) (er : Int) : Int := if er ≠ 0 then er else if p < xs.length then 13 else 0
end Go.Proofs.Ytmkeccibminnhaa
namespace Go.Proofs.Ytmkeccibminnhaa
open Go.RowKit
set_option linter.unusedVariables false

abbrev I64 (k : Int) : Prop := -9223372036854775808 ≤ k ∧ k ≤ 9223372036854775807

structure Win where
  p : Int
  u : Int
  s : Int
deriving DecidableEq
structure Rgn where
  page : Int
  pages : Int
  frame : Int
  rights : Int
deriving DecidableEq
structure Prt where
  ch : Int
  src : Bool
deriving DecidableEq
structure Chn where
  kind : Int
  words : Int
  depth : Int
deriving DecidableEq
/-- A core as it lies in the memory: where its windows are, and they. -/
structure Core where
  a : Option Addr
  c : Nat
  ws : List Win
structure Par where
  name : ByteArray
  entry : Int
  action : Int
  restarts : Int
  inputs : Int
  outputs : Int
  ra : Option Addr
  rc : Nat
  rs : List Rgn
  pa : Option Addr
  pc : Nat
  ps : List Prt
structure Cfg where
  frames : Int
  major : Int
  kernel : Int
  room : Int
  ca : Option Addr
  cc : Nat
  cs : List Core
  pa : Option Addr
  pc : Nat
  ps : List Par
  ha : Option Addr
  hc : Nat
  hs : List Chn

abbrev Win.vs (x : Win) : List Value := [.int .i64 x.p, .int .i64 x.u, .int .i64 x.s]
abbrev Win.v (x : Win) : Value := .agg #[.int .i64 x.p, .int .i64 x.u, .int .i64 x.s]
abbrev Rgn.vs (x : Rgn) : List Value := [.int .i64 x.page, .int .i64 x.pages, .int .i64 x.frame, .int .i64 x.rights]
abbrev Rgn.v (x : Rgn) : Value := .agg #[.int .i64 x.page, .int .i64 x.pages, .int .i64 x.frame, .int .i64 x.rights]
abbrev Prt.vs (x : Prt) : List Value := [.int .i64 x.ch, .bool x.src]
abbrev Prt.v (x : Prt) : Value := .agg #[.int .i64 x.ch, .bool x.src]
abbrev Chn.vs (x : Chn) : List Value := [.int .i64 x.kind, .int .i64 x.words, .int .i64 x.depth]
abbrev Chn.v (x : Chn) : Value := .agg #[.int .i64 x.kind, .int .i64 x.words, .int .i64 x.depth]
abbrev Core.vs (x : Core) : List Value := [.slice x.a x.ws.length x.c]
abbrev Core.v (x : Core) : Value := .slice x.a x.ws.length x.c
abbrev Par.vs (x : Par) : List Value := [.string x.name, .int .i64 x.entry, .int .i64 x.action, .int .i64 x.restarts, .int .i64 x.inputs, .int .i64 x.outputs, .slice x.ra x.rs.length x.rc, .slice x.pa x.ps.length x.pc]
abbrev Par.v (x : Par) : Value := .agg #[.string x.name, .int .i64 x.entry, .int .i64 x.action, .int .i64 x.restarts, .int .i64 x.inputs, .int .i64 x.outputs, .slice x.ra x.rs.length x.rc, .slice x.pa x.ps.length x.pc]
abbrev Cfg.v (x : Cfg) : Value := .agg #[.int .i64 x.frames, .int .i64 x.major, .int .i64 x.kernel, .int .i64 x.room, .slice x.ca x.cs.length x.cc, .slice x.pa x.ps.length x.pc, .slice x.ha x.hs.length x.hc]
abbrev Cfg.vs (x : Cfg) : List Value := [.int .i64 x.frames, .int .i64 x.major, .int .i64 x.kernel, .int .i64 x.room, .slice x.ca x.cs.length x.cc, .slice x.pa x.ps.length x.pc, .slice x.ha x.hs.length x.hc]

def Win.Fine (x : Win) : Prop := I64 x.p ∧ I64 x.u ∧ I64 x.s
def Rgn.Fine (x : Rgn) : Prop := I64 x.page ∧ I64 x.pages ∧ I64 x.frame ∧ I64 x.rights
def Prt.Fine (x : Prt) : Prop := I64 x.ch
def Chn.Fine (x : Chn) : Prop := I64 x.kind ∧ I64 x.words ∧ I64 x.depth

/-- Things of so many cells each can be read at this address, one behind another. -/
def SegA {α : Type} (cells : α → List Value) (k : Nat) (w : World) (a : Option Addr) (xs : List α) : Prop :=
  xs = [] ∨ ∃ g o, a = some ⟨g, o, none⟩ ∧ ∀ j x, xs[j]? = some x → ∀ i v, (cells x)[i]? = some v → w.cell? ⟨g, o + j * k + i, none⟩ = some v

section
variable {α : Type} {cells : α → List Value} {k : Nat} {w w' : World} {a : Option Addr} {xs : List α}
theorem SegA.kept {S : Nat → Prop} (h : SegA cells k w a xs) (hK : Keeps S w w') (hn : xs ≠ [] → ∀ x, a = some x → ¬ S x.block) : SegA cells k w' a xs := by
  rcases h with h | ⟨g, o, ha, hc⟩
  · exact .inl h
  · refine .inr ⟨g, o, ha, fun j x hj i v hv => ?_⟩
    have h1 := hc j x hj i v hv
    rw [World.cell?_of_block (w := w) (hK.block g (World.block_lt_of_cell? w _ h1) (hn (fun e => by rw [e] at hj; simp at hj) _ ha))]
    exact h1
theorem SegA.below {B : Nat} (h : SegA cells k w a xs) (hK : Below B w w') (hn : xs ≠ [] → ∀ x, a = some x → x.block < B) : SegA cells k w' a xs := by
  rcases h with h | ⟨g, o, ha, hc⟩
  · exact .inl h
  · refine .inr ⟨g, o, ha, fun j x hj i v hv => ?_⟩
    rw [World.cell?_of_block (w := w) (hK.block g (hn (fun e => by rw [e] at hj; simp at hj) _ ha))]
    exact hc j x hj i v hv
theorem SegA.at (h : SegA cells k w a xs) {j : Nat} {x : α} (hj : xs[j]? = some x) : ∃ g o, a = some ⟨g, o, none⟩ ∧ ∀ i v, (cells x)[i]? = some v → w.cell? ⟨g, o + j * k + i, none⟩ = some v := by
  rcases h with h | ⟨g, o, ha, hc⟩
  · rw [h] at hj; simp at hj
  · exact ⟨g, o, ha, fun i v => hc j x hj i v⟩
end

/-! ### The form -/
def nb (n : Int) : List UInt8 := lowB 4 (n % 4294967296).toNat
def wN (n : Int) : Bool := decide (n < 0) || decide (4294967295 < n)
def nbs (ns : List Int) : List UInt8 := ns.flatMap nb
def wNs (ns : List Int) : Bool := ns.any wN
def listB {α : Type} (e : α → List UInt8) (xs : List α) : List UInt8 := if 255 < xs.length then [] else lowB 1 xs.length ++ xs.flatMap e
def listW {α : Type} (d : α → Bool) (xs : List α) : Bool := decide (255 < xs.length) || xs.any d

abbrev inc (p : Int) : Int := IntKind.i64.wrap (p + 1)
def Win.ns (x : Win) : List Int := [inc x.p, x.u, x.s]
def Rgn.ns (x : Rgn) : List Int := [x.page, x.pages, x.frame, x.rights]
def Chn.ns (x : Chn) : List Int := [x.kind, x.words, x.depth]
def Win.e (x : Win) : List UInt8 := nbs x.ns
def Rgn.e (x : Rgn) : List UInt8 := nbs x.ns
def Chn.e (x : Chn) : List UInt8 := nbs x.ns
def Prt.e (x : Prt) : List UInt8 := nbs [x.ch] ++ lowB 1 (if x.src then 1 else 0)
def Win.d (x : Win) : Bool := wNs x.ns
def Rgn.d (x : Rgn) : Bool := wNs x.ns
def Chn.d (x : Chn) : Bool := wNs x.ns
def Prt.d (x : Prt) : Bool := wNs [x.ch]
def Core.e (x : Core) : List UInt8 := listB Win.e x.ws
def Core.d (x : Core) : Bool := listW Win.d x.ws
def nameB (s : ByteArray) : List UInt8 := if 255 < s.size then [] else lowB 4 s.size ++ s.data.toList
def nameW (s : ByteArray) : Bool := decide (255 < s.size)
def Par.ns (x : Par) : List Int := [x.entry, x.action, x.restarts, x.inputs, x.outputs]
def Par.e (x : Par) : List UInt8 := nameB x.name ++ (nbs x.ns ++ (listB Rgn.e x.rs ++ listB Prt.e x.ps))
def Par.d (x : Par) : Bool := nameW x.name || (wNs x.ns || (listW Rgn.d x.rs || listW Prt.d x.ps))
def Cfg.ns (x : Cfg) : List Int := [x.frames, x.major, x.kernel, x.room]
def Cfg.e (x : Cfg) : List UInt8 := nbs x.ns ++ (listB Core.e x.cs ++ (listB Par.e x.ps ++ listB Chn.e x.hs))
def Cfg.d (x : Cfg) : Bool := wNs x.ns || (listW Core.d x.cs || (listW Par.d x.ps || listW Chn.d x.hs))

theorem nb_length (n : Int) : (nb n).length = 4 := by simp [nb, lowB]
theorem nbs_length (ns : List Int) : (nbs ns).length = 4 * ns.length := by
  induction ns with
  | nil => rfl
  | cons n ns ih => simp only [nbs, List.flatMap_cons, List.length_append, nb_length, List.length_cons] at *; omega
theorem flat_le {α : Type} (e : α → List UInt8) (m : Nat) (h : ∀ x, (e x).length ≤ m) (xs : List α) : (xs.flatMap e).length ≤ xs.length * m := by
  induction xs with
  | nil => simp
  | cons x xs ih => simp only [List.flatMap_cons, List.length_append, List.length_cons]; have := h x; rw [Nat.add_mul]; omega
theorem listB_le {α : Type} (e : α → List UInt8) (m : Nat) (h : ∀ x, (e x).length ≤ m) (xs : List α) : (listB e xs).length ≤ 1 + 255 * m := by
  unfold listB
  split
  · simp
  · have h1 := flat_le e m h xs
    have h2 : xs.length * m ≤ 255 * m := Nat.mul_le_mul_right _ (by omega)
    have : (lowB 1 xs.length).length = 1 := by simp [lowB]
    rw [List.length_append]; omega
theorem Win.e_le (x : Win) : x.e.length ≤ 12 := by unfold Win.e; rw [nbs_length]; exact Nat.le_refl _
theorem Rgn.e_le (x : Rgn) : x.e.length ≤ 16 := by unfold Rgn.e; rw [nbs_length]; exact Nat.le_refl _
theorem Chn.e_le (x : Chn) : x.e.length ≤ 12 := by unfold Chn.e; rw [nbs_length]; exact Nat.le_refl _
theorem lowB_len (k N : Nat) : (lowB k N).length = k := by simp [lowB]
theorem Prt.e_le (x : Prt) : x.e.length ≤ 5 := by unfold Prt.e; rw [List.length_append, nbs_length, lowB_len]; exact Nat.le_refl _
theorem Core.e_le (x : Core) : x.e.length ≤ 3061 := listB_le _ 12 Win.e_le _
theorem nameB_le (s : ByteArray) : (nameB s).length ≤ 259 := by
  unfold nameB
  split
  · simp
  · have : s.data.toList.length = s.size := rfl
    simp only [List.length_append, this, lowB, List.length_map, List.length_range]; omega
theorem Par.e_le (x : Par) : x.e.length ≤ 5637 := by
  have h1 := nameB_le x.name
  have h2 := listB_le _ 16 Rgn.e_le x.rs
  have h3 := listB_le _ 5 Prt.e_le x.ps
  simp only [Par.e, List.length_append, nbs_length, Par.ns, List.length_cons, List.length_nil]; omega
theorem Cfg.e_le (x : Cfg) : x.e.length ≤ 2221069 := by
  have h1 := listB_le _ _ Core.e_le x.cs
  have h2 := listB_le _ _ Par.e_le x.ps
  have h3 := listB_le _ _ Chn.e_le x.hs
  simp only [Cfg.e, List.length_append, nbs_length, Cfg.ns, List.length_cons, List.length_nil]; omega
end Go.Proofs.Ytmkeccibminnhaa
