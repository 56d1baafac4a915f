import Derived.Test.YtekijhhpldnmnaaX
namespace Go.Proofs.Ytekijhhpldnmnaa
open Go.RowKit
set_option linter.unusedVariables false

/-- The i-th place from the first one on, and which one from the first on the k-th place is. -/
def pos (d f i : Nat) : Nat := if f + i < d then f + i else f + i - d
def idx (d f k : Nat) : Nat := if f ≤ k then k - f else k + d - f
theorem pos_mod {d f i : Nat} (hf : f < d) (hi : i < d) : (f + i) % d = pos d f i := by
  unfold pos
  split
  · exact Nat.mod_eq_of_lt (by omega)
  · rw [Nat.mod_eq_sub_mod (by omega)]; exact Nat.mod_eq_of_lt (by omega)
theorem pos_lt {d f i : Nat} (hf : f < d) (hi : i < d) : pos d f i < d := by unfold pos; split <;> omega
theorem idx_lt {d f k : Nat} (hf : f < d) (hk : k < d) : idx d f k < d := by unfold idx; split <;> omega
theorem idx_pos {d f i : Nat} (hf : f < d) (hi : i < d) : idx d f (pos d f i) = i := by unfold idx pos; split <;> split <;> omega
theorem pos_idx {d f k : Nat} (hf : f < d) (hk : k < d) : pos d f (idx d f k) = k := by unfold idx pos; split <;> split <;> omega

/-- Words as a head and places. -/
def flat (ps : List (List UInt32)) : List UInt32 := ps.flatten
theorem flat_length {L : Nat} (ps : List (List UInt32)) (h : ∀ p ∈ ps, p.length = L) : (flat ps).length = ps.length * L := by
  induction ps with
  | nil => simp [flat]
  | cons p ps ih =>
    have e : flat (p :: ps) = p ++ flat ps := rfl
    rw [e, List.length_append, ih (fun q hq => h q (by simp [hq])), h p (by simp), List.length_cons, Nat.add_mul]; omega
theorem win_app (a b : List UInt32) (p m : Nat) : win (a ++ b) (a.length + p) m = win b p m := by
  unfold win
  rw [List.drop_append, List.drop_eq_nil_of_le (by omega), List.nil_append, Nat.add_sub_cancel_left]
theorem win_left (a b : List UInt32) : win (a ++ b) 0 a.length = a := by simp [win]
theorem win_flat {L : Nat} (ps : List (List UInt32)) (h : ∀ p ∈ ps, p.length = L) (k : Nat) (hk : k < ps.length) : win (flat ps) (k * L) L = ps[k] := by
  induction ps generalizing k with
  | nil => simp at hk
  | cons p ps ih =>
    have e : flat (p :: ps) = p ++ flat ps := rfl
    have hp := h p (by simp)
    rw [e]
    cases k with
    | zero => rw [Nat.zero_mul, ← hp, win_left]; rfl
    | succ k =>
      have := win_app p (flat ps) (k * L) L
      rw [hp] at this
      rw [show (k + 1) * L = L + k * L by rw [Nat.add_mul]; omega, this, ih (fun q hq => h q (by simp [hq])) k (by simpa using hk)]
      rfl
theorem lay_app (a b : List UInt32) (p : Nat) (ys : List UInt32) : lay (a ++ b) (a.length + p) ys = a ++ lay b p ys := by
  unfold lay
  rw [List.take_append, List.take_of_length_le (by omega), Nat.add_sub_cancel_left, Nat.add_assoc, List.drop_append, List.drop_eq_nil_of_le (by omega), List.nil_append, Nat.add_sub_cancel_left]
  simp
theorem lay_left (a b ys : List UInt32) (h : ys.length = a.length) : lay (a ++ b) 0 ys = ys ++ b := by
  unfold lay
  rw [List.take_zero, List.nil_append, Nat.zero_add, h, List.drop_left]
theorem lay_flat {L : Nat} (ps : List (List UInt32)) (h : ∀ p ∈ ps, p.length = L) (k : Nat) (hk : k < ps.length) (y : List UInt32) (hy : y.length = L) : lay (flat ps) (k * L) y = flat (ps.set k y) := by
  induction ps generalizing k with
  | nil => simp at hk
  | cons p ps ih =>
    have e : flat (p :: ps) = p ++ flat ps := rfl
    have hp := h p (by simp)
    rw [e]
    cases k with
    | zero => rw [Nat.zero_mul, lay_left _ _ _ (by rw [hy, hp])]; rfl
    | succ k =>
      have := lay_app p (flat ps) (k * L) y
      rw [hp] at this
      rw [show (k + 1) * L = L + k * L by rw [Nat.add_mul]; omega, this, ih (fun q hq => h q (by simp [hq])) k (by simpa using hk)]
      rfl
theorem flat_win {L : Nat} (l : List UInt32) (d : Nat) (h : l.length = d * L) : flat ((List.range d).map fun k => win l (k * L) L) = l := by
  induction d generalizing l with
  | zero => rw [Nat.zero_mul] at h; rw [List.eq_nil_of_length_eq_zero h]; rfl
  | succ d ih =>
    rw [List.range_succ_eq_map, List.map_cons, List.map_map]
    have hl : (d + 1) * L = L + d * L := by rw [Nat.add_mul]; omega
    have h2 : (l.drop L).length = d * L := by rw [List.length_drop]; omega
    have e := ih (l.drop L) h2
    have e2 : ((List.range d).map ((fun k => win l (k * L) L) ∘ Nat.succ)) = (List.range d).map fun k => win (l.drop L) (k * L) L := by
      refine List.map_congr_left fun k _ => ?_
      show win l ((k + 1) * L) L = _
      unfold win
      rw [List.drop_drop, show (k + 1) * L = L + k * L by rw [Nat.add_mul]; omega]
    rw [e2]
    show win l (0 * L) L ++ flat _ = l
    rw [e]
    simp [win]

/-- What is wrong with a place's words, or nothing. -/
def rpB (pl : List UInt32) (filled : Bool) : Bool :=
  if filled then decide (1 ≤ (wd pl 0).toNat) && (decide ((wd pl 0).toNat < pl.length) && zeroB (pl.drop (1 + (wd pl 0).toNat))) else zeroB pl
def fstW (h : Nat) (l : List UInt32) : Nat := if h = 1 then 0 else (wd l 0).toNat
def cntI (h : Nat) : Nat := if h = 1 then 0 else 1
def cntW (h : Nat) (l : List UInt32) : Nat := (wd l (cntI h)).toNat
def plc (h n d : Nat) (l : List UInt32) (i : Nat) : List UInt32 := win l (h + pos d (fstW h l) i * (1 + n)) (1 + n)
def rightB (h n d : Nat) (l : List UInt32) : Bool :=
  decide (fstW h l < d) && (decide (cntW h l ≤ d) && (!(decide (cntW h l = 0) && !decide (fstW h l = 0)) && (List.range d).all fun i => rpB (plc h n d l i) (decide (i < cntW h l))))

/-- A row: where its messages begin, the messages, how many were lost. -/
structure Rw where
  f : Nat
  ms : List (List UInt32)
  lost : UInt32
structure Rw.Ok (h n d : Nat) (r : Rw) : Prop where
  f : r.f < d
  m : r.ms.length ≤ d
  z : r.ms = [] → r.f = 0
  l : ∀ m ∈ r.ms, 1 ≤ m.length ∧ m.length ≤ n
  s : h = 1 → r.f = 0 ∧ r.lost = 0

def plW (n : Nat) (m : List UInt32) : List UInt32 := UInt32.ofNat m.length :: (m ++ List.replicate (n - m.length) 0)
def plO (n : Nat) (o : Option (List UInt32)) : List UInt32 := match o with | some m => plW n m | none => List.replicate (1 + n) 0
def hdW (h : Nat) (r : Rw) : List UInt32 := if h = 1 then [UInt32.ofNat r.ms.length] else [UInt32.ofNat r.f, UInt32.ofNat r.ms.length, r.lost]
def plsW (n d f : Nat) (ms : List (List UInt32)) : List (List UInt32) := (List.range d).map fun k => plO n (ms[idx d f k]?)
def enc (h n d : Nat) (r : Rw) : List UInt32 := hdW h r ++ flat (plsW n d r.f r.ms)
def msgO (pl : List UInt32) : List UInt32 := (pl.drop 1).take (wd pl 0).toNat
def rd (h n d : Nat) (l : List UInt32) : Rw := ⟨fstW h l, (List.range (cntW h l)).map fun i => msgO (plc h n d l i), if h = 1 then 0 else wd l 2⟩

theorem plW_length {n : Nat} {m : List UInt32} (h : m.length ≤ n) : (plW n m).length = 1 + n := by simp [plW]; omega
theorem plO_length {n : Nat} {o : Option (List UInt32)} (h : ∀ m, o = some m → m.length ≤ n) : (plO n o).length = 1 + n := by
  cases o with
  | none => simp [plO]
  | some m => exact plW_length (h m rfl)
theorem plsW_length (n d f : Nat) (ms : List (List UInt32)) : (plsW n d f ms).length = d := by simp [plsW]
theorem plsW_get {n d f : Nat} {ms : List (List UInt32)} {k : Nat} (hk : k < (plsW n d f ms).length) : (plsW n d f ms)[k] = plO n (ms[idx d f k]?) := by simp [plsW]
theorem plsW_one {n d f : Nat} {ms : List (List UInt32)} (h : ∀ m ∈ ms, m.length ≤ n) : ∀ p ∈ plsW n d f ms, p.length = 1 + n := by
  intro p hp
  obtain ⟨k, hk, rfl⟩ := List.mem_map.1 hp
  exact plO_length fun m hm => h m (List.mem_of_getElem? hm)
theorem hdW_length {h : Nat} (hh : h = 1 ∨ h = 3) (r : Rw) : (hdW h r).length = h := by rcases hh with rfl | rfl <;> rfl

section
variable {h n d : Nat} {r : Rw}
theorem Rw.Ok.le (o : r.Ok h n d) : ∀ m ∈ r.ms, m.length ≤ n := fun m hm => (o.l m hm).2
theorem enc_length (hh : h = 1 ∨ h = 3) (o : r.Ok h n d) : (enc h n d r).length = h + d * (1 + n) := by
  unfold enc
  rw [List.length_append, hdW_length hh, flat_length _ (plsW_one o.le), plsW_length]
theorem enc_win (hh : h = 1 ∨ h = 3) (o : r.Ok h n d) {k : Nat} (hk : k < d) : win (enc h n d r) (h + k * (1 + n)) (1 + n) = plO n (r.ms[idx d r.f k]?) := by
  have hl : k < (plsW n d r.f r.ms).length := by rw [plsW_length]; exact hk
  have e := win_app (hdW h r) (flat (plsW n d r.f r.ms)) (k * (1 + n)) (1 + n)
  rw [hdW_length hh] at e
  rw [enc, e, win_flat _ (plsW_one o.le) k hl, plsW_get]
theorem enc_head (hh : h = 1 ∨ h = 3) (i : Nat) (hi : i < h) : wd (enc h n d r) i = wd (hdW h r) i := by
  unfold enc wd
  rw [List.getD_eq_getElem?_getD, List.getD_eq_getElem?_getD, List.getElem?_append_left (by rw [hdW_length hh]; exact hi)]
theorem enc_lay (hh : h = 1 ∨ h = 3) (o : r.Ok h n d) {k : Nat} (hk : k < d) (y : List UInt32) (hy : y.length = 1 + n) : lay (enc h n d r) (h + k * (1 + n)) y = hdW h r ++ flat ((plsW n d r.f r.ms).set k y) := by
  have hl : k < (plsW n d r.f r.ms).length := by rw [plsW_length]; exact hk
  have e := lay_app (hdW h r) (flat (plsW n d r.f r.ms)) (k * (1 + n)) y
  rw [hdW_length hh] at e
  rw [enc, e, lay_flat _ (plsW_one o.le) k hl y hy]
end

end Go.Proofs.Ytekijhhpldnmnaa
