import Derived.Test.YtjadpbkhfclldaaGreatRo
import Derived.Test.YtjadpbkhfclldaaGreatJWalkF
import Derived.Test.YtjadpbkhfclldaaGreatKt
import Derived.Deep.RegionHeld3
import Derived.Deep.RegionHeld2
namespace Go.Proofs.YtjadpbkhfclldaaGreat
open Go.RowKit
set_option linter.unusedVariables false

/-! ### The form -/
def nb (n : Int) : List UInt8 := lowB 4 (n % 4294967296).toNat
def wN (n : Int) : Bool := decide (n < 0) || decide (4294967295 < n)
def nbs (ns : List Int) : List UInt8 := ns.flatMap nb
def wNs (ns : List Int) : Bool := ns.any wN
def listB {α : Type} (e : α → List UInt8) (xs : List α) : List UInt8 := if 255 < xs.length then [] else lowB 1 xs.length ++ xs.flatMap e
def listW {α : Type} (d : α → Bool) (xs : List α) : Bool := decide (255 < xs.length) || xs.any d

abbrev inc (p : Int) : Int := IntKind.i64.wrap (p + 1)
def Win.ns (x : Win) : List Int := [inc x.p, x.u, x.s]
def Rgn.ns (x : Rgn) : List Int := [x.page, x.pages, x.frame, x.rights]
def Chn.ns (x : Chn) : List Int := [x.kind, x.words, x.depth]
def Win.e (x : Win) : List UInt8 := nbs x.ns
def Rgn.e (x : Rgn) : List UInt8 := nbs x.ns
def Chn.e (x : Chn) : List UInt8 := nbs x.ns
def Prt.e (x : Prt) : List UInt8 := nbs [x.ch] ++ lowB 1 (if x.src then 1 else 0)
def Win.d (x : Win) : Bool := wNs x.ns
def Rgn.d (x : Rgn) : Bool := wNs x.ns
def Chn.d (x : Chn) : Bool := wNs x.ns
def Prt.d (x : Prt) : Bool := wNs [x.ch]
def Core.e (x : Core) : List UInt8 := listB Win.e x.ws
def Core.d (x : Core) : Bool := listW Win.d x.ws
def nameBy (s : ByteArray) : List UInt8 := if 255 < s.size then [] else lowB 4 s.size ++ s.data.toList
def nameW (s : ByteArray) : Bool := decide (255 < s.size)
def Par.e (x : Par) : List UInt8 := nameBy x.name ++ (nbs x.ns ++ (listB Rgn.e x.rs ++ listB Prt.e x.ps))
def Par.d (x : Par) : Bool := nameW x.name || (wNs x.ns || (listW Rgn.d x.rs || listW Prt.d x.ps))
def Cfg.e (x : Cfg) : List UInt8 := nbs x.ns ++ (listB Core.e x.cs ++ (listB Par.e x.ps ++ listB Chn.e x.hs))
def Cfg.d (x : Cfg) : Bool := wNs x.ns || (listW Core.d x.cs || (listW Par.d x.ps || listW Chn.d x.hs))

theorem nb_length (n : Int) : (nb n).length = 4 := by simp [nb, lowB]
theorem nbs_length (ns : List Int) : (nbs ns).length = 4 * ns.length := by
  induction ns with
  | nil => rfl
  | cons n ns ih => simp only [nbs, List.flatMap_cons, List.length_append, nb_length, List.length_cons] at *; omega
theorem flat_le {α : Type} (e : α → List UInt8) (m : Nat) (h : ∀ x, (e x).length ≤ m) (xs : List α) : (xs.flatMap e).length ≤ xs.length * m := by
  induction xs with
  | nil => simp
  | cons x xs ih => simp only [List.flatMap_cons, List.length_append, List.length_cons]; have := h x; rw [Nat.add_mul]; omega
theorem listB_le {α : Type} (e : α → List UInt8) (m : Nat) (h : ∀ x, (e x).length ≤ m) (xs : List α) : (listB e xs).length ≤ 1 + 255 * m := by
  unfold listB
  split
  · simp
  · have h1 := flat_le e m h xs
    have h2 : xs.length * m ≤ 255 * m := Nat.mul_le_mul_right _ (by omega)
    have : (lowB 1 xs.length).length = 1 := by simp [lowB]
    rw [List.length_append]; omega
theorem Win.e_le (x : Win) : x.e.length ≤ 12 := by unfold Win.e; rw [nbs_length]; exact Nat.le_refl _
theorem Rgn.e_le (x : Rgn) : x.e.length ≤ 16 := by unfold Rgn.e; rw [nbs_length]; exact Nat.le_refl _
theorem Chn.e_le (x : Chn) : x.e.length ≤ 12 := by unfold Chn.e; rw [nbs_length]; exact Nat.le_refl _
theorem lowB_len (k N : Nat) : (lowB k N).length = k := by simp [lowB]
theorem Prt.e_le (x : Prt) : x.e.length ≤ 5 := by unfold Prt.e; rw [List.length_append, nbs_length, lowB_len]; exact Nat.le_refl _
theorem Core.e_le (x : Core) : x.e.length ≤ 3061 := listB_le _ 12 Win.e_le _
theorem nameB_le (s : ByteArray) : (nameBy s).length ≤ 259 := by
  unfold nameBy
  split
  · simp
  · have : s.data.toList.length = s.size := rfl
    simp only [List.length_append, this, lowB, List.length_map, List.length_range]; omega
theorem Par.e_le (x : Par) : x.e.length ≤ 5637 := by
  have h1 := nameB_le x.name
  have h2 := listB_le _ 16 Rgn.e_le x.rs
  have h3 := listB_le _ 5 Prt.e_le x.ps
  simp only [Par.e, List.length_append, nbs_length, Par.ns, List.length_cons, List.length_nil]; omega
theorem Cfg.e_le (x : Cfg) : x.e.length ≤ 2221069 := by
  have h1 := listB_le _ _ Core.e_le x.cs
  have h2 := listB_le _ _ Par.e_le x.ps
  have h3 := listB_le _ _ Chn.e_le x.hs
  simp only [Cfg.e, List.length_append, nbs_length, Cfg.ns, List.length_cons, List.length_nil]; omega
end Go.Proofs.YtjadpbkhfclldaaGreat
namespace Go.Proofs.YtjadpbkhfclldaaGreat
open Go.RowKit
set_option linter.unusedVariables false

abbrev Rs (α : Type) := Except Nat (α × Nat)
def rdNum (B : List UInt8) (p : Nat) : Rs Int := if B.length < p + 4 then .error p else .ok (((highN ((B.drop p).take 4) : Nat) : Int), p + 4)
def rdU8 (B : List UInt8) (p : Nat) : Rs Nat := if B.length < p + 1 then .error p else .ok (highN ((B.drop p).take 1), p + 1)
def rdText (B : List UInt8) (p : Nat) : Rs ByteArray := if txtE B p 0 255 = 0 then .ok (⟨(txtV B p 0 255).toArray⟩, txtP B p 0 255) else .error p
def rdSrc (B : List UInt8) (p : Nat) : Rs Bool := (rdU8 B p).bind fun r => if 1 < r.1 then .error p else .ok (r.1 == 1, r.2)
def rdMany {α : Type} (f : Nat → Rs α) : Nat → Nat → Rs (List α)
  | 0, p => .ok ([], p)
  | n + 1, p => (rdMany f n p).bind fun r => (f r.2).bind fun s => .ok (r.1 ++ [s.1], s.2)
def rdList {α : Type} (B : List UInt8) (f : Nat → Rs α) (p : Nat) : Rs (List α) := (rdU8 B p).bind fun r => rdMany f r.1 r.2
def rdWin (B : List UInt8) (p : Nat) : Rs Win := (rdNum B p).bind fun a => (rdNum B a.2).bind fun b => (rdNum B b.2).bind fun c => .ok (⟨a.1 - 1, b.1, c.1⟩, c.2)
def rdRgn (B : List UInt8) (p : Nat) : Rs Rgn := (rdNum B p).bind fun a => (rdNum B a.2).bind fun b => (rdNum B b.2).bind fun c => (rdNum B c.2).bind fun d => .ok (⟨a.1, b.1, c.1, d.1⟩, d.2)
def rdChn (B : List UInt8) (p : Nat) : Rs Chn := (rdNum B p).bind fun a => (rdNum B a.2).bind fun b => (rdNum B b.2).bind fun c => .ok (⟨a.1, b.1, c.1⟩, c.2)
def rdPrt (B : List UInt8) (p : Nat) : Rs Prt := (rdNum B p).bind fun a => (rdSrc B a.2).bind fun b => .ok (⟨a.1, b.1⟩, b.2)
def rdCore (B : List UInt8) (p : Nat) : Rs (List Win) := rdList B (rdWin B) p
def rdPar (B : List UInt8) (p : Nat) : Rs PPar := (rdText B p).bind fun s => (rdNum B s.2).bind fun a => (rdNum B a.2).bind fun b => (rdNum B b.2).bind fun c => (rdNum B c.2).bind fun d => (rdNum B d.2).bind fun e =>
  (rdList B (rdRgn B) e.2).bind fun r => (rdList B (rdPrt B) r.2).bind fun q => .ok (⟨s.1, a.1, b.1, c.1, d.1, e.1, r.1, q.1⟩, q.2)
def rdCfg (B : List UInt8) (p : Nat) : Rs PCfg := (rdNum B p).bind fun a => (rdNum B a.2).bind fun b => (rdNum B b.2).bind fun c => (rdNum B c.2).bind fun d =>
  (rdList B (rdCore B) d.2).bind fun x => (rdList B (rdPar B) x.2).bind fun y => (rdList B (rdChn B) y.2).bind fun z => .ok (⟨a.1, b.1, c.1, d.1, x.1, y.1, z.1⟩, z.2)

theorem bind_ok {α β : Type} {r : Rs β} {x : Rs α} {f : α × Nat → Rs β} {v : α × Nat} (hC : r = x.bind f) (h : x = .ok v) : r = f v := by rw [hC, h]; rfl
theorem bind_err {α β : Type} {r : Rs β} {x : Rs α} {f : α × Nat → Rs β} {q : Nat} (hC : r = x.bind f) (h : x = .error q) : r = .error q := by rw [hC, h]; rfl
end Go.Proofs.YtjadpbkhfclldaaGreat
namespace Go.Proofs.YtjadpbkhfclldaaGreat
open Go.RowKit
set_option linter.unusedVariables false
set_option maxRecDepth 6000

/-- The reader gave up at this place. -/
abbrev refV (q : Nat) (k : Int) : Value := .iface 98 (.agg #[.int .i64 q, .int .i64 k])
abbrev gone (q : Nat) (k : Int) : Ending := .panicked [{ v := refV q k, recovered := false }]

/-- A post that says of a panic what the function's own says, and hangs on no slot. -/
def PanicTo (R : Ending → World → Prop) (Q : Exit → Act → World → Prop) : Exit → Act → World → Prop
  | .panic c, a, w => a.defers = [] ∧ R (.panicked c) w
  | e, a, w => Q e a w
theorem PanicTo.normal {R : Ending → World → Prop} {Q : Exit → Act → World → Prop} {a : Act} {w : World} (h : Q .normal a w) : PanicTo R Q .normal a w := h
theorem wp_region_panicTo {P : Program} {id : Nat} {ops : Array Oper} {b : Bool} {Q : Exit → Act → World → Prop} {a : Act} {w : World} (R : Ending → World → Prop)
    (hQ : ∀ c a w, a.defers = [] → R (.panicked c) w → Q (.panic c) a w) (h : (Code.region id ops b).wp P (PanicTo R Q) a w) : (Code.region id ops b).wp P Q a w :=
  Code.wp_mono (fun e a w h => by cases e <;> first | exact h | exact hQ _ _ _ h.1 h.2) h

theorem Rd.drew {w : World} {b g p : Nat} {B : List UInt8} {er : Int} (h : Rd w b g B p er) : Rd w.drew b g B p er := h.kept ((Keeps.refl (fun _ => False) w).drew) (fun e => e) (fun e => e)

set_option maxHeartbeats 400000 in
theorem item32_bad (b g p : Nat) (B : List UInt8) (er : Int) (v : Value) (w : World) (h : Rd w b g B p er) (he : er ≠ 0) :
    Calls Tryz.prog 74 #[.agg #[.pointer (some ⟨b, 0, none⟩)], v] w fun e w' => e = gone p 110 ∧ Keeps (fun _ => False) w w' := by
  have HR : Hid (Rd w b g B p er) := h
  have he' : (er != 0) = true := by simpa using he
  clear h
  go_enter Tryz.func74, Tryz.ntmps74
  go_wp2_with fail
  have hK : Keeps (fun _ => False) w (w.alloc (.cells #[.pointer (some ⟨b, 0, none⟩)] 126)) := (Keeps.refl _ w).alloc _
  have hR1 := HR.out.kept hK (fun e => e) (fun e => e)
  refine (rFault_any b g p er B _ hR1).mono ?_
  rintro e w1 ⟨rfl, rfl⟩
  go_wp2_with fail
  refine (rAt_any b g p er B _ hR1).mono ?_
  rintro e w1 ⟨rfl, rfl⟩
  go_wp2
  exact ⟨rfl, rfl, hK⟩

set_option maxHeartbeats 400000 in
theorem item32_good (b g p : Nat) (B : List UInt8) (v : Value) (w : World) (h : Rd w b g B p 0) :
    Calls Tryz.prog 74 #[.agg #[.pointer (some ⟨b, 0, none⟩)], v] w fun e w' => e = .returned v ∧ Keeps (fun _ => False) w w' := by
  have HR : Hid (Rd w b g B p 0) := h
  clear h
  go_enter Tryz.func74, Tryz.ntmps74
  go_wp2_with fail
  have hK : Keeps (fun _ => False) w (w.alloc (.cells #[.pointer (some ⟨b, 0, none⟩)] 126)) := (Keeps.refl _ w).alloc _
  have hR1 := HR.out.kept hK (fun e => e) (fun e => e)
  refine (rFault_any b g p 0 B _ hR1).mono ?_
  rintro e w1 ⟨rfl, rfl⟩
  go_wp2
  go_ret
  exact ⟨rfl, hK⟩

theorem item32_any (b g p : Nat) (B : List UInt8) (er : Int) (v : Value) (w : World) (h : Rd w b g B p er) :
    Calls Tryz.prog 74 #[.agg #[.pointer (some ⟨b, 0, none⟩)], v] w fun e w' => ((er = 0 ∧ e = .returned v) ∨ (er ≠ 0 ∧ e = gone p 110)) ∧ Keeps (fun _ => False) w w' := by
  by_cases he : er = 0
  · subst he
    exact (item32_good b g p B v w h).mono fun e w' h => ⟨.inl ⟨rfl, h.1⟩, h.2⟩
  · exact (item32_bad b g p B er v w h he).mono fun e w' h => ⟨.inr ⟨he, h.1⟩, h.2⟩

set_option maxHeartbeats 400000 in
theorem item8_bad (b g p : Nat) (B : List UInt8) (er : Int) (v : Value) (w : World) (h : Rd w b g B p er) (he : er ≠ 0) :
    Calls Tryz.prog 90 #[.agg #[.pointer (some ⟨b, 0, none⟩)], v] w fun e w' => e = gone p 110 ∧ Keeps (fun _ => False) w w' := by
  have HR : Hid (Rd w b g B p er) := h
  have he' : (er != 0) = true := by simpa using he
  clear h
  go_enter Tryz.func90, Tryz.ntmps90
  go_wp2_with fail
  have hK : Keeps (fun _ => False) w (w.alloc (.cells #[.pointer (some ⟨b, 0, none⟩)] 126)) := (Keeps.refl _ w).alloc _
  have hR1 := HR.out.kept hK (fun e => e) (fun e => e)
  refine (rFault_any b g p er B _ hR1).mono ?_
  rintro e w1 ⟨rfl, rfl⟩
  go_wp2_with fail
  refine (rAt_any b g p er B _ hR1).mono ?_
  rintro e w1 ⟨rfl, rfl⟩
  go_wp2
  exact ⟨rfl, rfl, hK⟩

set_option maxHeartbeats 400000 in
theorem item8_good (b g p : Nat) (B : List UInt8) (v : Value) (w : World) (h : Rd w b g B p 0) :
    Calls Tryz.prog 90 #[.agg #[.pointer (some ⟨b, 0, none⟩)], v] w fun e w' => e = .returned v ∧ Keeps (fun _ => False) w w' := by
  have HR : Hid (Rd w b g B p 0) := h
  clear h
  go_enter Tryz.func90, Tryz.ntmps90
  go_wp2_with fail
  have hK : Keeps (fun _ => False) w (w.alloc (.cells #[.pointer (some ⟨b, 0, none⟩)] 126)) := (Keeps.refl _ w).alloc _
  have hR1 := HR.out.kept hK (fun e => e) (fun e => e)
  refine (rFault_any b g p 0 B _ hR1).mono ?_
  rintro e w1 ⟨rfl, rfl⟩
  go_wp2
  go_ret
  exact ⟨rfl, hK⟩

theorem item8_any (b g p : Nat) (B : List UInt8) (er : Int) (v : Value) (w : World) (h : Rd w b g B p er) :
    Calls Tryz.prog 90 #[.agg #[.pointer (some ⟨b, 0, none⟩)], v] w fun e w' => ((er = 0 ∧ e = .returned v) ∨ (er ≠ 0 ∧ e = gone p 110)) ∧ Keeps (fun _ => False) w w' := by
  by_cases he : er = 0
  · subst he
    exact (item8_good b g p B v w h).mono fun e w' h => ⟨.inl ⟨rfl, h.1⟩, h.2⟩
  · exact (item8_bad b g p B er v w h he).mono fun e w' h => ⟨.inr ⟨he, h.1⟩, h.2⟩

set_option maxHeartbeats 400000 in
theorem itemT_bad (b g p : Nat) (B : List UInt8) (er : Int) (v : Value) (w : World) (h : Rd w b g B p er) (he : er ≠ 0) :
    Calls Tryz.prog 94 #[.agg #[.pointer (some ⟨b, 0, none⟩)], v] w fun e w' => e = gone p 110 ∧ Keeps (fun _ => False) w w' := by
  have HR : Hid (Rd w b g B p er) := h
  have he' : (er != 0) = true := by simpa using he
  clear h
  go_enter Tryz.func94, Tryz.ntmps94
  go_wp2_with fail
  have hK : Keeps (fun _ => False) w (w.alloc (.cells #[.pointer (some ⟨b, 0, none⟩)] 126)) := (Keeps.refl _ w).alloc _
  have hR1 := HR.out.kept hK (fun e => e) (fun e => e)
  refine (rFault_any b g p er B _ hR1).mono ?_
  rintro e w1 ⟨rfl, rfl⟩
  go_wp2_with fail
  refine (rAt_any b g p er B _ hR1).mono ?_
  rintro e w1 ⟨rfl, rfl⟩
  go_wp2
  exact ⟨rfl, rfl, hK⟩

set_option maxHeartbeats 400000 in
theorem itemT_good (b g p : Nat) (B : List UInt8) (v : Value) (w : World) (h : Rd w b g B p 0) :
    Calls Tryz.prog 94 #[.agg #[.pointer (some ⟨b, 0, none⟩)], v] w fun e w' => e = .returned v ∧ Keeps (fun _ => False) w w' := by
  have HR : Hid (Rd w b g B p 0) := h
  clear h
  go_enter Tryz.func94, Tryz.ntmps94
  go_wp2_with fail
  have hK : Keeps (fun _ => False) w (w.alloc (.cells #[.pointer (some ⟨b, 0, none⟩)] 126)) := (Keeps.refl _ w).alloc _
  have hR1 := HR.out.kept hK (fun e => e) (fun e => e)
  refine (rFault_any b g p 0 B _ hR1).mono ?_
  rintro e w1 ⟨rfl, rfl⟩
  go_wp2
  go_ret
  exact ⟨rfl, hK⟩

theorem itemT_any (b g p : Nat) (B : List UInt8) (er : Int) (v : Value) (w : World) (h : Rd w b g B p er) :
    Calls Tryz.prog 94 #[.agg #[.pointer (some ⟨b, 0, none⟩)], v] w fun e w' => ((er = 0 ∧ e = .returned v) ∨ (er ≠ 0 ∧ e = gone p 110)) ∧ Keeps (fun _ => False) w w' := by
  by_cases he : er = 0
  · subst he
    exact (itemT_good b g p B v w h).mono fun e w' h => ⟨.inl ⟨rfl, h.1⟩, h.2⟩
  · exact (itemT_bad b g p B er v w h he).mono fun e w' h => ⟨.inr ⟨he, h.1⟩, h.2⟩

theorem rdNum_bd {B : List UInt8} {p q : Nat} {n : Int} (h : rdNum B p = .ok (n, q)) : 0 ≤ n ∧ n < 4294967296 := by
  unfold rdNum at h
  split at h
  · cases h
  · cases h
    have := numV_lt B p 0 4
    unfold numV at this
    rw [if_neg (by omega), if_neg (by omega)] at this
    have e : (256 : Nat) ^ 4 = 4294967296 := by decide
    rw [e] at this
    exact ⟨by omega, by omega⟩
theorem rdNum_of (B : List UInt8) (p : Nat) : (numE B p 0 4 = 0 ∧ rdNum B p = .ok ((numV B p 0 4 : Nat), numP B p 0 4)) ∨ (numE B p 0 4 ≠ 0 ∧ rdNum B p = .error p ∧ numP B p 0 4 = p) := by
  unfold numE rdNum numV numP
  by_cases hl : B.length < p + 4
  · right; simp [hl]
  · left; simp [hl]
theorem rdU8_of (B : List UInt8) (p : Nat) : (numE B p 0 1 = 0 ∧ rdU8 B p = .ok (numV B p 0 1, numP B p 0 1)) ∨ (numE B p 0 1 ≠ 0 ∧ rdU8 B p = .error p ∧ numP B p 0 1 = p) := by
  unfold numE rdU8 numV numP
  by_cases hl : B.length < p + 1
  · right; simp [hl]
  · left; simp [hl]
theorem rdText_of (B : List UInt8) (p : Nat) : (txtE B p 0 255 = 0 ∧ rdText B p = .ok (⟨(txtV B p 0 255).toArray⟩, txtP B p 0 255)) ∨ (txtE B p 0 255 ≠ 0 ∧ rdText B p = .error p ∧ txtP B p 0 255 = p) := by
  unfold rdText
  by_cases hl : txtE B p 0 255 = 0
  · left; simp [hl]
  · right; simp [hl, txtP]

set_option maxHeartbeats 1000000 in
theorem number_any (b g p : Nat) (B : List UInt8) (w : World) (h : Rd w b g B p 0) :
    Calls Tryz.prog 76 #[.agg #[.pointer (some ⟨b, 0, none⟩)]] w fun e w' => ((∃ n q, rdNum B p = .ok (n, q) ∧ e = .returned (.int .i64 n) ∧ Rd w' b g B q 0) ∨ (∃ q, rdNum B p = .error q ∧ e = gone q 110)) ∧ Keeps (· = b) w w' := by
  obtain ⟨c, hc⟩ : ∃ c, c = w.heap.size := ⟨_, rfl⟩
  have HR : Hid (Rd w b g B p 0 ∧ c = w.heap.size) := ⟨h, hc⟩
  have hb : c ≠ b := by have := h.blk.lt; omega
  clear h
  go_enter Tryz.func76, Tryz.ntmps76
  go_wp2
  rw [← hc]
  obtain ⟨W, hW⟩ : ∃ W, W = w.alloc (.cells #[.pointer (some ⟨b, 0, none⟩)] 126) := ⟨_, rfl⟩
  have hB : Blk W c [.pointer (some ⟨b, 0, none⟩)] 126 := by rw [hW, hc]; exact Blk.new w _ _
  have hR : Rd W b g B p 0 := by rw [hW]; exact HR.out.1.kept ((Keeps.refl (fun _ => False) w).alloc _) (fun e => e) (fun e => e)
  have HK : Hid (Keeps (· = b) w W) := by rw [hW]; exact (Keeps.refl _ w).alloc _
  have p0 := hB.cell (i := 0) rfl
  rw [← hW]
  have HB : Hid (Blk W c [.pointer (some ⟨b, 0, none⟩)] 126 ∧ Rd W b g B p 0) := ⟨hB, hR⟩
  clear hW hB hR HR hc
  refine wp_region_panicTo (fun e w' => ((∃ n q, rdNum B p = .ok (n, q) ∧ e = .returned (.int .i64 n) ∧ Rd w' b g B q 0) ∨ (∃ q, rdNum B p = .error q ∧ e = gone q 110)) ∧ Keeps (· = b) w w') (fun c a w h1 h2 => ⟨h1, h2⟩) ?_
  obtain ⟨V, hV⟩ : ∃ V, numV B p 0 4 = V := ⟨_, rfl⟩
  have hlt := numV_lt B p 0 4
  rw [hV, show (256 : Nat) ^ 4 = 4294967296 from by decide] at hlt
  have hcv : IntKind.i64.wrap (V : Int) = V := by rw [IntKind.wrap_i64]; omega
  have HV : Hid (numV B p 0 4 = V) := hV
  clear hV
  go_region_held2 (fun w' => w'.cell? ⟨c, 0, none⟩ = some (.pointer (some ⟨b, 0, none⟩))) (first | exact hS | go_keep)
    (first
      | (go_at_call 75; refine (rU32_any b g p 0 B _ HB.out.2.drew).mono ?_; rintro e w2 ⟨rfl, hR2, hK2⟩; rw [HV.out]; have hS : w2.cell? ⟨c, 0, none⟩ = some (.pointer (some ⟨b, 0, none⟩)) := (HB.out.1.drew.kept hK2 hb).cell (i := 0) rfl)
      | (go_at_call 74; refine (item32_any b g _ B _ _ _ hR2).mono ?_; rintro e w3 ⟨⟨he, rfl⟩ | ⟨he, rfl⟩, hK3⟩; rotate_left; exact ⟨rfl, .inr ⟨p, (rdNum_of B p).elim (fun h => absurd h.1 he) (fun h => h.2.1), by rw [(rdNum_of B p).elim (fun h => absurd h.1 he) (fun h => h.2.2)]⟩, (HK.out.drew.trans hK2 fun _ _ e => e).trans hK3 fun _ _ e => e.elim⟩; have hS : w3.cell? ⟨c, 0, none⟩ = some (.pointer (some ⟨b, 0, none⟩)) := ((HB.out.1.drew.kept hK2 hb).kept hK3 fun e => e).cell (i := 0) rfl))
  refine PanicTo.normal ?_
  have HF : Hid ((∃ n q, rdNum B p = .ok (n, q) ∧ Ending.returned (Value.int .i64 V) = .returned (.int .i64 n) ∧ Rd w3 b g B q 0) ∧ Keeps (· = b) w w3) := by
    refine ⟨⟨V, numP B p 0 4, ?_, rfl, ?_⟩, (HK.out.drew.trans hK2 fun _ _ e => e).trans hK3 fun _ _ e => e.elim⟩
    · rcases rdNum_of B p with h | h
      · rw [h.2, HV.out]
      · exact absurd he h.1
    · have := hR2.kept hK3 (fun e => e) (fun e => e)
      rw [he] at this; exact this
  clear hR2 hK2 hK3 hS he
  go_wp2
  go_ret
  exact ⟨.inl HF.out.1, HF.out.2⟩
end Go.Proofs.YtjadpbkhfclldaaGreat
namespace Go.Proofs.YtjadpbkhfclldaaGreat
open Go.RowKit
set_option linter.unusedVariables false
set_option maxRecDepth 6000

/-- The reader goes on. -/
structure Gon (w0 w : World) (b g : Nat) (B : List UInt8) (p : Nat) : Prop where
  rd : Rd w b g B p 0
  kp : Keeps (· = b) w0 w
theorem Gon.drew {w0 w : World} {b g p : Nat} {B : List UInt8} (h : Gon w0 w b g B p) : Gon w0 w.drew b g B p := ⟨h.rd.drew, h.kp.drew⟩
theorem number_step {w0 w : World} {b g p : Nat} {B : List UInt8} (h : Gon w0 w b g B p) :
    Calls Tryz.prog 76 #[.agg #[.pointer (some ⟨b, 0, none⟩)]] w fun e w' => ((∃ n q, rdNum B p = .ok (n, q) ∧ e = .returned (.int .i64 n) ∧ Gon w0 w' b g B q) ∨ (∃ q, rdNum B p = .error q ∧ e = gone q 110 ∧ Keeps (· = b) w0 w')) ∧ Keeps (· = b) w w' := by
  refine (number_any b g p B w h.rd).mono ?_
  rintro e w' ⟨⟨n, q, h1, h2, h3⟩ | ⟨q, h1, h2⟩, hK⟩
  · exact ⟨.inl ⟨n, q, h1, h2, h3, h.kp.trans hK fun _ _ e => e⟩, hK⟩
  · exact ⟨.inr ⟨q, h1, h2, h.kp.trans hK fun _ _ e => e⟩, hK⟩

theorem i64_of {n : Int} (h : 0 ≤ n ∧ n < 4294967296) : I64 n := ⟨by omega, by omega⟩
theorem i64_dec {n : Int} (h : 0 ≤ n ∧ n < 4294967296) : I64 (n - 1) := ⟨by omega, by omega⟩
theorem wrap_dec {n : Int} (h : 0 ≤ n ∧ n < 4294967296) : IntKind.i64.wrap (n - 1) = n - 1 := by rw [IntKind.wrap_i64]; omega
def SrcP (B : List UInt8) (p b g : Nat) (e : Ending) (w' : World) : Prop := ∃ n q, rdSrc B p = .ok (n, q) ∧ e = .returned (.bool n) ∧ Rd w' b g B q 0
set_option maxHeartbeats 1000000 in
theorem source_any (b g p : Nat) (B : List UInt8) (w : World) (h : Rd w b g B p 0) :
    Calls Tryz.prog 104 #[.agg #[.pointer (some ⟨b, 0, none⟩)]] w fun e w' => (SrcP B p b g e w' ∨ (∃ q, rdSrc B p = .error q ∧ e = gone q 110)) ∧ Keeps (· = b) w w' := by
  obtain ⟨c, hc⟩ : ∃ c, c = w.heap.size := ⟨_, rfl⟩
  have HR : Hid (Rd w b g B p 0 ∧ c = w.heap.size) := ⟨h, hc⟩
  have hb : c ≠ b := by have := h.blk.lt; omega
  clear h
  go_enter Tryz.func104, Tryz.ntmps104
  go_wp2_with fail
  rw [← hc]
  obtain ⟨W, hW⟩ : ∃ W, W = w.alloc (.cells #[.pointer (some ⟨b, 0, none⟩)] 126) := ⟨_, rfl⟩
  have hB : Blk W c [.pointer (some ⟨b, 0, none⟩)] 126 := by rw [hW, hc]; exact Blk.new w _ _
  have hR : Rd W b g B p 0 := by rw [hW]; exact HR.out.1.kept ((Keeps.refl (fun _ => False) w).alloc _) (fun e => e) (fun e => e)
  have HK : Hid (Keeps (· = b) w W) := by rw [hW]; exact (Keeps.refl _ w).alloc _
  have p0 := hB.cell (i := 0) rfl
  rw [← hW]
  have HB : Hid (Blk W c [.pointer (some ⟨b, 0, none⟩)] 126 ∧ Rd W b g B p 0) := ⟨hB, hR⟩
  clear hW hB hR HR hc
  refine (rAt_any b g p 0 B W HB.out.2).mono ?_
  rintro e w1 ⟨rfl, hw⟩
  obtain rfl := hw.symm
  clear hw
  go_wp2
  refine wp_region_panicTo (fun e w' => (SrcP B p b g e w' ∨ (∃ q, rdSrc B p = .error q ∧ e = gone q 110)) ∧ Keeps (· = b) w w') (fun c a w h1 h2 => ⟨h1, h2⟩) ?_
  obtain ⟨V, hV⟩ : ∃ V, numV B p 0 1 = V := ⟨_, rfl⟩
  have hlt := numV_lt B p 0 1
  rw [hV, show (256 : Nat) ^ 1 = 256 from by decide] at hlt
  have HV : Hid (numV B p 0 1 = V) := hV
  have HC : Hid (rdSrc B p = (rdU8 B p).bind _) := rfl
  clear hV
  go_region_held2 (fun w' => w'.cell? ⟨c, 0, none⟩ = some (.pointer (some ⟨b, 0, none⟩))) (first | exact hS | go_keep)
    (first
      | (go_at_call 91; refine (rU8_any b g p 0 B _ HB.out.2.drew).mono ?_; rintro e w2 ⟨rfl, hR2, hK2⟩; rw [HV.out]; have hS : w2.cell? ⟨c, 0, none⟩ = some (.pointer (some ⟨b, 0, none⟩)) := (HB.out.1.drew.kept hK2 hb).cell (i := 0) rfl)
      | (go_at_call 90; refine (item8_any b g _ B _ _ _ hR2).mono ?_; rintro e w3 ⟨⟨he, rfl⟩ | ⟨he, rfl⟩, hK3⟩; rotate_left; exact ⟨rfl, .inr ⟨p, bind_err HC.out ((rdU8_of B p).elim (fun h => absurd h.1 he) (fun h => h.2.1)), by rw [(rdU8_of B p).elim (fun h => absurd h.1 he) (fun h => h.2.2)]⟩, (HK.out.drew.trans hK2 fun _ _ e => e).trans hK3 fun _ _ e => e.elim⟩; have hS : w3.cell? ⟨c, 0, none⟩ = some (.pointer (some ⟨b, 0, none⟩)) := ((HB.out.1.drew.kept hK2 hb).kept hK3 fun e => e).cell (i := 0) rfl))
  refine PanicTo.normal ?_
  have hv : rdU8 B p = .ok (V, numP B p 0 1) := by
    rcases rdU8_of B p with h | h
    · rw [h.2, HV.out]
    · exact absurd he h.1
  have HF : Hid (rdSrc B p = (if 1 < V then .error p else .ok (V == 1, numP B p 0 1)) ∧ Rd w3 b g B (numP B p 0 1) 0 ∧ Keeps (· = b) w w3) := by
    refine ⟨bind_ok HC.out hv, ?_, (HK.out.drew.trans hK2 fun _ _ e => e).trans hK3 fun _ _ e => e.elim⟩
    have := hR2.kept hK3 (fun e => e) (fun e => e)
    rw [he] at this; exact this
  clear hR2 hK2 hK3 hS he hv
  by_cases h1 : 1 < V
  · have h1' : (1 : Int) < V := by omega
    go_wp2
    exact ⟨rfl, .inr ⟨p, by rw [HF.out.1, if_pos h1], rfl⟩, HF.out.2.2⟩
  · have h1' : ¬ (1 : Int) < V := by omega
    go_wp2
    go_ret
    refine ⟨.inl ⟨V == 1, _, by rw [HF.out.1, if_neg h1], ?_, HF.out.2.1⟩, HF.out.2.2⟩
    have : ((V : Int) == 1) = (V == 1) := by
      rw [Bool.eq_iff_iff]; simp; omega
    rw [← this]
    rfl
theorem source_step {w0 w : World} {b g p : Nat} {B : List UInt8} (h : Gon w0 w b g B p) :
    Calls Tryz.prog 104 #[.agg #[.pointer (some ⟨b, 0, none⟩)]] w fun e w' => ((∃ n q, rdSrc B p = .ok (n, q) ∧ e = .returned (.bool n) ∧ Gon w0 w' b g B q) ∨ (∃ q, rdSrc B p = .error q ∧ e = gone q 110 ∧ Keeps (· = b) w0 w')) ∧ Keeps (· = b) w w' := by
  refine (source_any b g p B w h.rd).mono ?_
  rintro e w' ⟨⟨n, q, h1, h2, h3⟩ | ⟨q, h1, h2⟩, hK⟩
  · exact ⟨.inl ⟨n, q, h1, h2, h3, h.kp.trans hK fun _ _ e => e⟩, hK⟩
  · exact ⟨.inr ⟨q, h1, h2, h.kp.trans hK fun _ _ e => e⟩, hK⟩

end Go.Proofs.YtjadpbkhfclldaaGreat
