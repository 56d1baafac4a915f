import Derived.Test.YtekijhhpldnmnaaX
namespace Go.Proofs.Ytekijhhpldnmnaa
open Go.RowKit
set_option linter.unusedVariables false

/-- The i-th place from the first one on, and which one from the first on the k-th place is. -/
def pos (d f i : Nat) : Nat := if f + i < d then f + i else f + i - d
def idx (d f k : Nat) : Nat := if f ≤ k then k - f else k + d - f
theorem pos_mod {d f i : Nat} (hf : f < d) (hi : i < d) : (f + i) % d = pos d f i := by
  unfold pos
  split
  · exact Nat.mod_eq_of_lt (by omega)
  · rw [Nat.mod_eq_sub_mod (by omega)]; exact Nat.mod_eq_of_lt (by omega)
theorem pos_lt {d f i : Nat} (hf : f < d) (hi : i < d) : pos d f i < d := by unfold pos; split <;> omega
theorem idx_lt {d f k : Nat} (hf : f < d) (hk : k < d) : idx d f k < d := by unfold idx; split <;> omega
theorem idx_pos {d f i : Nat} (hf : f < d) (hi : i < d) : idx d f (pos d f i) = i := by unfold idx pos; split <;> split <;> omega
theorem pos_idx {d f k : Nat} (hf : f < d) (hk : k < d) : pos d f (idx d f k) = k := by unfold idx pos; split <;> split <;> omega

/-- Words as a head and places. -/
def flat (ps : List (List UInt32)) : List UInt32 := ps.flatten
theorem flat_length {L : Nat} (ps : List (List UInt32)) (h : ∀ p ∈ ps, p.length = L) : (flat ps).length = ps.length * L := by
  induction ps with
  | nil => simp [flat]
  | cons p ps ih =>
    have e : flat (p :: ps) = p ++ flat ps := rfl
    rw [e, List.length_append, ih (fun q hq => h q (by simp [hq])), h p (by simp), List.length_cons, Nat.add_mul]; omega
theorem win_app (a b : List UInt32) (p m : Nat) : win (a ++ b) (a.length + p) m = win b p m := by
  unfold win
  rw [List.drop_append, List.drop_eq_nil_of_le (by omega), List.nil_append, Nat.add_sub_cancel_left]
theorem win_left (a b : List UInt32) : win (a ++ b) 0 a.length = a := by simp [win]
theorem win_flat {L : Nat} (ps : List (List UInt32)) (h : ∀ p ∈ ps, p.length = L) (k : Nat) (hk : k < ps.length) : win (flat ps) (k * L) L = ps[k] := by
  induction ps generalizing k with
  | nil => simp at hk
  | cons p ps ih =>
    have e : flat (p :: ps) = p ++ flat ps := rfl
    have hp := h p (by simp)
    rw [e]
    cases k with
    | zero => rw [Nat.zero_mul, ← hp, win_left]; rfl
    | succ k =>
      have := win_app p (flat ps) (k * L) L
      rw [hp] at this
      rw [show (k + 1) * L = L + k * L by rw [Nat.add_mul]; omega, this, ih (fun q hq => h q (by simp [hq])) k (by simpa using hk)]
      rfl
theorem lay_app (a b : List UInt32) (p : Nat) (ys : List UInt32) : lay (a ++ b) (a.length + p) ys = a ++ lay b p ys := by
  unfold lay
  rw [List.take_append, List.take_of_length_le (by omega), Nat.add_sub_cancel_left, Nat.add_assoc, List.drop_append, List.drop_eq_nil_of_le (by omega), List.nil_append, Nat.add_sub_cancel_left]
  simp
theorem lay_left (a b ys : List UInt32) (h : ys.length = a.length) : lay (a ++ b) 0 ys = ys ++ b := by
  unfold lay
  rw [List.take_zero, List.nil_append, Nat.zero_add, h, List.drop_left]
theorem lay_flat {L : Nat} (ps : List (List UInt32)) (h : ∀ p ∈ ps, p.length = L) (k : Nat) (hk : k < ps.length) (y : List UInt32) (hy : y.length = L) : lay (flat ps) (k * L) y = flat (ps.set k y) := by
  induction ps generalizing k with
  | nil => simp at hk
  | cons p ps ih =>
    have e : flat (p :: ps) = p ++ flat ps := rfl
    have hp := h p (by simp)
    rw [e]
    cases k with
    | zero => rw [Nat.zero_mul, lay_left _ _ _ (by rw [hy, hp])]; rfl
    | succ k =>
      have := lay_app p (flat ps) (k * L) y
      rw [hp] at this
      rw [show (k + 1) * L = L + k * L by rw [Nat.add_mul]; omega, this, ih (fun q hq => h q (by simp [hq])) k (by simpa using hk)]
      rfl
theorem flat_win {L : Nat} (l : List UInt32) (d : Nat) (h : l.length = d * L) : flat ((List.range d).map fun k => win l (k * L) L) = l := by
  induction d generalizing l with
  | zero => rw [Nat.zero_mul] at h; rw [List.eq_nil_of_length_eq_zero h]; rfl
  | succ d ih =>
    rw [List.range_succ_eq_map, List.map_cons, List.map_map]
    have hl : (d + 1) * L = L + d * L := by rw [Nat.add_mul]; omega
    have h2 : (l.drop L).length = d * L := by rw [List.length_drop]; omega
    have e := ih (l.drop L) h2
    have e2 : ((List.range d).map ((fun k => win l (k * L) L) ∘ Nat.succ)) = (List.range d).map fun k => win (l.drop L) (k * L) L := by
      refine List.map_congr_left fun k _ => ?_
      show win l ((k + 1) * L) L = _
      unfold win
      rw [List.drop_drop, show (k + 1) * L = L + k * L by rw [Nat.add_mul]; omega]
    rw [e2]
    show win l (0 * L) L ++ flat _ = l
    rw [e]
    simp [win]

/-- What is wrong with a place's words, or nothing. -/
def rpB (pl : List UInt32) (filled : Bool) : Bool :=
  if filled then decide (1 ≤ (wd pl 0).toNat) && (decide ((wd pl 0).toNat < pl.length) && zeroB (pl.drop (1 + (wd pl 0).toNat))) else zeroB pl
def fstW (h : Nat) (l : List UInt32) : Nat := if h = 1 then 0 else (wd l 0).toNat
def cntI (h : Nat) : Nat := if h = 1 then 0 else 1
def cntW (h : Nat) (l : List UInt32) : Nat := (wd l (cntI h)).toNat
def plc (h n d : Nat) (l : List UInt32) (i : Nat) : List UInt32 := win l (h + pos d (fstW h l) i * (1 + n)) (1 + n)
def rightB (h n d : Nat) (l : List UInt32) : Bool :=
  decide (fstW h l < d) && (decide (cntW h l ≤ d) && (!(decide (cntW h l = 0) && !decide (fstW h l = 0)) && (List.range d).all fun i => rpB (plc h n d l i) (decide (i < cntW h l))))

/-- A row: where its messages begin, the messages, how many were lost. -/
structure Rw where
  f : Nat
  ms : List (List UInt32)
  lost : UInt32
structure Rw.Ok (h n d : Nat) (r : Rw) : Prop where
  f : r.f < d
  m : r.ms.length ≤ d
  z : r.ms = [] → r.f = 0
  l : ∀ m ∈ r.ms, 1 ≤ m.length ∧ m.length ≤ n
  s : h = 1 → r.f = 0 ∧ r.lost = 0

def plW (n : Nat) (m : List UInt32) : List UInt32 := UInt32.ofNat m.length :: (m ++ List.replicate (n - m.length) 0)
def plO (n : Nat) (o : Option (List UInt32)) : List UInt32 := match o with | some m => plW n m | none => List.replicate (1 + n) 0
def hdW (h : Nat) (r : Rw) : List UInt32 := if h = 1 then [UInt32.ofNat r.ms.length] else [UInt32.ofNat r.f, UInt32.ofNat r.ms.length, r.lost]
def plsW (n d f : Nat) (ms : List (List UInt32)) : List (List UInt32) := (List.range d).map fun k => plO n (ms[idx d f k]?)
def enc (h n d : Nat) (r : Rw) : List UInt32 := hdW h r ++ flat (plsW n d r.f r.ms)
def msgO (pl : List UInt32) : List UInt32 := (pl.drop 1).take (wd pl 0).toNat
def rd (h n d : Nat) (l : List UInt32) : Rw := ⟨fstW h l, (List.range (cntW h l)).map fun i => msgO (plc h n d l i), if h = 1 then 0 else wd l 2⟩

theorem plW_length {n : Nat} {m : List UInt32} (h : m.length ≤ n) : (plW n m).length = 1 + n := by simp [plW]; omega
theorem plO_length {n : Nat} {o : Option (List UInt32)} (h : ∀ m, o = some m → m.length ≤ n) : (plO n o).length = 1 + n := by
  cases o with
  | none => simp [plO]
  | some m => exact plW_length (h m rfl)
theorem plsW_length (n d f : Nat) (ms : List (List UInt32)) : (plsW n d f ms).length = d := by simp [plsW]
theorem plsW_get {n d f : Nat} {ms : List (List UInt32)} {k : Nat} (hk : k < (plsW n d f ms).length) : (plsW n d f ms)[k] = plO n (ms[idx d f k]?) := by simp [plsW]
theorem plsW_one {n d f : Nat} {ms : List (List UInt32)} (h : ∀ m ∈ ms, m.length ≤ n) : ∀ p ∈ plsW n d f ms, p.length = 1 + n := by
  intro p hp
  obtain ⟨k, hk, rfl⟩ := List.mem_map.1 hp
  exact plO_length fun m hm => h m (List.mem_of_getElem? hm)
theorem hdW_length {h : Nat} (hh : h = 1 ∨ h = 3) (r : Rw) : (hdW h r).length = h := by rcases hh with rfl | rfl <;> rfl

section
variable {h n d : Nat} {r : Rw}
theorem Rw.Ok.le (o : r.Ok h n d) : ∀ m ∈ r.ms, m.length ≤ n := fun m hm => (o.l m hm).2
theorem enc_length (hh : h = 1 ∨ h = 3) (o : r.Ok h n d) : (enc h n d r).length = h + d * (1 + n) := by
  unfold enc
  rw [List.length_append, hdW_length hh, flat_length _ (plsW_one o.le), plsW_length]
theorem enc_win (hh : h = 1 ∨ h = 3) (o : r.Ok h n d) {k : Nat} (hk : k < d) : win (enc h n d r) (h + k * (1 + n)) (1 + n) = plO n (r.ms[idx d r.f k]?) := by
  have hl : k < (plsW n d r.f r.ms).length := by rw [plsW_length]; exact hk
  have e := win_app (hdW h r) (flat (plsW n d r.f r.ms)) (k * (1 + n)) (1 + n)
  rw [hdW_length hh] at e
  rw [enc, e, win_flat _ (plsW_one o.le) k hl, plsW_get]
theorem enc_head (hh : h = 1 ∨ h = 3) (i : Nat) (hi : i < h) : wd (enc h n d r) i = wd (hdW h r) i := by
  unfold enc wd
  rw [List.getD_eq_getElem?_getD, List.getD_eq_getElem?_getD, List.getElem?_append_left (by rw [hdW_length hh]; exact hi)]
theorem enc_lay (hh : h = 1 ∨ h = 3) (o : r.Ok h n d) {k : Nat} (hk : k < d) (y : List UInt32) (hy : y.length = 1 + n) : lay (enc h n d r) (h + k * (1 + n)) y = hdW h r ++ flat ((plsW n d r.f r.ms).set k y) := by
  have hl : k < (plsW n d r.f r.ms).length := by rw [plsW_length]; exact hk
  have e := lay_app (hdW h r) (flat (plsW n d r.f r.ms)) (k * (1 + n)) y
  rw [hdW_length hh] at e
  rw [enc, e, lay_flat _ (plsW_one o.le) k hl y hy]
end

end Go.Proofs.Ytekijhhpldnmnaa
namespace Go.Proofs.Ytekijhhpldnmnaa
open Go.RowKit
set_option linter.unusedVariables false

theorem ofNat_small {k : Nat} (h : k ≤ 100) : (UInt32.ofNat k).toNat = k := by rw [UInt32.toNat_ofNat']; omega
theorem zeroB_eq {l : List UInt32} (h : zeroB l = true) : l = List.replicate l.length 0 := by
  unfold zeroB at h
  rw [List.all_eq_true] at h
  exact List.eq_replicate_iff.2 ⟨rfl, fun x hx => by simpa using h x hx⟩
theorem rpB_no {n : Nat} {pl : List UInt32} (hl : pl.length = 1 + n) (h : rpB pl false = true) : pl = plO n none := by
  unfold rpB at h
  rw [if_neg (by decide)] at h
  rw [zeroB_eq h, hl]
  rfl
theorem rpB_yes {n : Nat} {pl : List UInt32} (hl : pl.length = 1 + n) (h : rpB pl true = true) : pl = plO n (some (msgO pl)) ∧ 1 ≤ (msgO pl).length ∧ (msgO pl).length ≤ n := by
  unfold rpB at h
  rw [if_pos rfl, Bool.and_eq_true, Bool.and_eq_true, decide_eq_true_iff, decide_eq_true_iff] at h
  obtain ⟨h1, h2, h3⟩ := h
  cases pl with
  | nil => simp at hl; omega
  | cons x t =>
    have e0 : wd (x :: t) 0 = x := rfl
    rw [e0] at h1 h2 h3
    have ht : t.length = n := by simp at hl; omega
    have hx : x.toNat ≤ n := by rw [hl] at h2; omega
    have em : msgO (x :: t) = t.take x.toNat := rfl
    have el : (t.take x.toNat).length = x.toNat := by simp; omega
    rw [em, el]
    refine ⟨?_, h1, hx⟩
    have h4 : t.drop x.toNat = List.replicate (n - x.toNat) 0 := by
      rw [Nat.add_comm, List.drop_succ_cons] at h3
      rw [zeroB_eq h3, List.length_drop, ht]
    show x :: t = plW n (t.take x.toNat)
    unfold plW
    rw [el, ← h4, List.take_append_drop, UInt32.ofNat_toNat]
theorem rp_none (n : Nat) : rpB (plO n none) false = true := by
  unfold rpB
  rw [if_neg (by decide)]
  exact zeroB_rep _
theorem msg_plW {n : Nat} {m : List UInt32} (h : m.length ≤ n) (hn : n ≤ 16) : msgO (plW n m) = m := by
  have e0 : wd (plW n m) 0 = UInt32.ofNat m.length := rfl
  unfold msgO
  rw [e0, ofNat_len (by omega)]
  simp [plW]
theorem rp_some {n : Nat} {m : List UInt32} (h1 : 1 ≤ m.length) (h : m.length ≤ n) (hn : n ≤ 16) : rpB (plO n (some m)) true = true := by
  have e0 : wd (plW n m) 0 = UInt32.ofNat m.length := rfl
  unfold rpB
  rw [if_pos rfl]
  show (decide (1 ≤ (wd (plW n m) 0).toNat) && (decide ((wd (plW n m) 0).toNat < (plW n m).length) && zeroB ((plW n m).drop (1 + (wd (plW n m) 0).toNat)))) = true
  rw [e0, ofNat_len (by omega), plW_length h, decide_eq_true h1, decide_eq_true (by omega)]
  have : (plW n m).drop (1 + m.length) = List.replicate (n - m.length) 0 := by
    unfold plW; rw [Nat.add_comm, List.drop_succ_cons]; simp
  rw [this, zeroB_rep]
  rfl

section
variable {h n d : Nat} {r : Rw}
theorem fst_enc (hh : h = 1 ∨ h = 3) (o : r.Ok h n d) (hd : d ≤ 8) : fstW h (enc h n d r) = r.f := by
  have := o.f
  unfold fstW
  rcases hh with rfl | rfl
  · rw [if_pos rfl, (o.s rfl).1]
  · rw [if_neg (by decide), enc_head (.inr rfl) 0 (by omega)]
    show (UInt32.ofNat r.f).toNat = r.f
    exact ofNat_small (by omega)
theorem cnt_enc (hh : h = 1 ∨ h = 3) (o : r.Ok h n d) (hd : d ≤ 8) : cntW h (enc h n d r) = r.ms.length := by
  have := o.m
  unfold cntW cntI
  rcases hh with rfl | rfl
  · rw [if_pos rfl, enc_head (.inl rfl) 0 (by omega)]
    show (UInt32.ofNat r.ms.length).toNat = _
    exact ofNat_small (by omega)
  · rw [if_neg (by decide), enc_head (.inr rfl) 1 (by omega)]
    show (UInt32.ofNat r.ms.length).toNat = _
    exact ofNat_small (by omega)
theorem plc_enc (hh : h = 1 ∨ h = 3) (o : r.Ok h n d) (hd : d ≤ 8) {i : Nat} (hi : i < d) : plc h n d (enc h n d r) i = plO n (r.ms[i]?) := by
  unfold plc
  rw [fst_enc hh o hd, enc_win hh o (pos_lt o.f hi), idx_pos o.f hi]
theorem right_enc (hh : h = 1 ∨ h = 3) (o : r.Ok h n d) (hd : d ≤ 8) (hn : n ≤ 16) : rightB h n d (enc h n d r) = true := by
  unfold rightB
  rw [fst_enc hh o hd, cnt_enc hh o hd, decide_eq_true o.f, decide_eq_true o.m]
  simp only [Bool.true_and, Bool.and_eq_true, List.all_eq_true, List.mem_range]
  refine ⟨?_, fun i hi => ?_⟩
  · by_cases h0 : r.ms.length = 0
    · rw [o.z (List.eq_nil_of_length_eq_zero h0)]; simp
    · simp [h0]
  · rw [plc_enc hh o hd hi]
    by_cases hm : i < r.ms.length
    · rw [List.getElem?_eq_getElem hm, decide_eq_true hm]
      have := o.l r.ms[i] (List.getElem_mem hm)
      exact rp_some this.1 this.2 hn
    · rw [List.getElem?_eq_none (by omega), decide_eq_false hm]
      exact rp_none n
theorem rd_enc (hh : h = 1 ∨ h = 3) (o : r.Ok h n d) (hd : d ≤ 8) (hn : n ≤ 16) : rd h n d (enc h n d r) = r := by
  have e1 := fst_enc hh o hd
  have e2 := cnt_enc hh o hd
  have e3 : ((List.range (cntW h (enc h n d r))).map fun i => msgO (plc h n d (enc h n d r) i)) = r.ms := by
    rw [e2]
    apply List.ext_getElem
    · simp
    · intro i h1 h2
      simp only [List.getElem_map, List.getElem_range]
      rw [plc_enc hh o hd (by have := o.m; omega), List.getElem?_eq_getElem h2]
      exact msg_plW (o.l _ (List.getElem_mem h2)).2 hn
  have e4 : (if h = 1 then (0 : UInt32) else wd (enc h n d r) 2) = r.lost := by
    rcases hh with rfl | rfl
    · rw [if_pos rfl, (o.s rfl).2]
    · rw [if_neg (by decide), enc_head (.inr rfl) 2 (by omega)]; rfl
  unfold rd
  rw [e1, e3, e4]

theorem right_parts {l : List UInt32} (hr : rightB h n d l = true) : fstW h l < d ∧ cntW h l ≤ d ∧ (cntW h l = 0 → fstW h l = 0) ∧ ∀ i, i < d → rpB (plc h n d l i) (decide (i < cntW h l)) = true := by
  unfold rightB at hr
  simp only [Bool.and_eq_true, decide_eq_true_iff, List.all_eq_true, List.mem_range] at hr
  refine ⟨hr.1, hr.2.1, fun h0 => ?_, hr.2.2.2⟩
  have := hr.2.2.1
  rw [decide_eq_true h0] at this
  simpa using this
theorem rd_ms {l : List UInt32} {i : Nat} (hi : i < cntW h l) : (rd h n d l).ms[i]? = some (msgO (plc h n d l i)) := by
  unfold rd
  rw [List.getElem?_map, List.getElem?_range hi]
  rfl
theorem rd_len (l : List UInt32) : (rd h n d l).ms.length = cntW h l := by simp [rd]
theorem plc_length {l : List UInt32} (hl : l.length = h + d * (1 + n)) (hf : fstW h l < d) {i : Nat} (hi : i < d) : (plc h n d l i).length = 1 + n := by
  unfold plc
  refine win_length _ _ _ ?_
  have := Nat.mul_le_mul_right (1 + n) (show pos d (fstW h l) i + 1 ≤ d from pos_lt hf hi)
  rw [Nat.add_mul] at this
  omega
theorem rd_ok (hh : h = 1 ∨ h = 3) {l : List UInt32} (hl : l.length = h + d * (1 + n)) (hr : rightB h n d l = true) : (rd h n d l).Ok h n d := by
  obtain ⟨h1, h2, h3, h4⟩ := right_parts hr
  refine ⟨h1, by rw [rd_len]; exact h2, fun e => h3 ?_, fun m hm => ?_, fun e => ?_⟩
  · rw [← rd_len (n := n) (d := d) l, e]; rfl
  · obtain ⟨i, hi, rfl⟩ := List.mem_map.1 hm
    have hi : i < cntW h l := by simpa using hi
    have := h4 i (by omega)
    rw [decide_eq_true hi] at this
    exact (rpB_yes (plc_length hl h1 (by omega)) this).2
  · subst e
    exact ⟨rfl, rfl⟩
theorem enc_rd (hh : h = 1 ∨ h = 3) {l : List UInt32} (hl : l.length = h + d * (1 + n)) (hd : 1 ≤ d) (hr : rightB h n d l = true) : enc h n d (rd h n d l) = l := by
  obtain ⟨h1, h2, h3, h4⟩ := right_parts hr
  have e1 : hdW h (rd h n d l) = l.take h := by
    have hlen : h ≤ l.length := by omega
    unfold hdW
    rw [rd_len]
    rcases hh with rfl | rfl
    · rw [if_pos rfl]
      have hc : cntW 1 l = (wd l 0).toNat := rfl
      cases l with
      | nil => simp at hlen
      | cons a t => rw [hc, UInt32.ofNat_toNat]; rfl
    · rw [if_neg (by decide)]
      have hc : cntW 3 l = (wd l 1).toNat := rfl
      match l, hlen with
      | a :: b :: c :: t, _ =>
        rw [hc, UInt32.ofNat_toNat]
        show [UInt32.ofNat (wd (a :: b :: c :: t) 0).toNat, _, _] = _
        rw [UInt32.ofNat_toNat]
        rfl
  have e2 : plsW n d (rd h n d l).f (rd h n d l).ms = (List.range d).map fun k => win (l.drop h) (k * (1 + n)) (1 + n) := by
    unfold plsW
    refine List.map_congr_left fun k hk => ?_
    have hk : k < d := by simpa using hk
    have hf : (rd h n d l).f = fstW h l := rfl
    rw [hf]
    have hi := idx_lt h1 hk
    have hp := h4 _ hi
    have ew : win (l.drop h) (k * (1 + n)) (1 + n) = plc h n d l (idx d (fstW h l) k) := by
      unfold plc
      rw [pos_idx h1 hk]
      unfold win
      rw [List.drop_drop]
    have hpl := plc_length hl h1 hi
    rw [ew]
    by_cases hc : idx d (fstW h l) k < cntW h l
    · rw [rd_ms hc]
      rw [decide_eq_true hc] at hp
      exact (rpB_yes hpl hp).1.symm
    · rw [List.getElem?_eq_none (by rw [rd_len]; omega)]
      rw [decide_eq_false hc] at hp
      exact (rpB_no hpl hp).symm
  unfold enc
  rw [e1, e2, flat_win _ d (by rw [List.length_drop]; omega), List.take_append_drop]

/-! ### A message more, a message less -/
def Rw.push (r : Rw) (m : List UInt32) : Rw := { r with ms := r.ms ++ [m] }
def nxt (d f : Nat) : Nat := if f + 1 < d then f + 1 else 0
def Rw.pop (d : Nat) (r : Rw) : Rw := { r with f := if r.ms.tail = [] then 0 else nxt d r.f, ms := r.ms.tail }
def Rw.lose (r : Rw) : Rw := { r with lost := if r.lost.toNat < 4294967295 then r.lost + 1 else r.lost }
def Rw.bring (d : Nat) (r : Rw) (m : List UInt32) : Rw := if r.ms.length = d then r.lose else r.push m
theorem nxt_mod {d f : Nat} (h : f < d) : (f + 1) % d = nxt d f := by
  unfold nxt
  split
  · exact Nat.mod_eq_of_lt (by omega)
  · rw [show f + 1 = d by omega, Nat.mod_self]
theorem nxt_lt {d f : Nat} (h : f < d) : nxt d f < d := by unfold nxt; split <;> omega
theorem Rw.Ok.push {m : List UInt32} (o : r.Ok h n d) (hr : r.ms.length < d) (hm : 1 ≤ m.length ∧ m.length ≤ n) : (r.push m).Ok h n d :=
  ⟨o.f, by simp [Rw.push]; omega, fun e => by simp [Rw.push] at e, fun q hq => by
    simp only [Rw.push, List.mem_append, List.mem_singleton] at hq
    rcases hq with hq | rfl
    · exact o.l q hq
    · exact hm, o.s⟩
theorem Rw.Ok.pop (o : r.Ok 3 n d) : (r.pop d).Ok 3 n d := by
  refine ⟨?_, ?_, ?_, fun q hq => o.l q (List.mem_of_mem_tail hq), fun e => by cases e⟩
  · show (if r.ms.tail = [] then 0 else nxt d r.f) < d
    have := o.f
    split
    · omega
    · exact nxt_lt o.f
  · show r.ms.tail.length ≤ d
    rw [List.length_tail]; have := o.m; omega
  · intro e
    exact if_pos e
theorem Rw.Ok.lose (o : r.Ok 3 n d) : r.lose.Ok 3 n d := ⟨o.f, o.m, o.z, o.l, fun e => by cases e⟩
theorem Rw.Ok.bring {m : List UInt32} (o : r.Ok 3 n d) (hm : 1 ≤ m.length ∧ m.length ≤ n) : (r.bring d m).Ok 3 n d := by
  unfold Rw.bring
  split
  · exact o.lose
  · exact o.push (by have := o.m; omega) hm

theorem plsW_push {f : Nat} {ms : List (List UInt32)} {m : List UInt32} (hf : f < d) (hm : ms.length < d) : plsW n d f (ms ++ [m]) = (plsW n d f ms).set (pos d f ms.length) (plW n m) := by
  apply List.ext_getElem
  · simp [plsW]
  · intro k h1 h2
    have hk : k < d := by rw [plsW_length] at h1; exact h1
    rw [plsW_get, List.getElem_set]
    split
    · rename_i e
      rw [← e, idx_pos hf hm, List.getElem?_append_right (Nat.le_refl _), Nat.sub_self]
      rfl
    · rename_i e
      have hne : idx d f k ≠ ms.length := fun e2 => e (by rw [← e2, pos_idx hf hk])
      rw [plsW_get]
      congr 1
      by_cases hlt : idx d f k < ms.length
      · rw [List.getElem?_append_left hlt]
      · rw [List.getElem?_eq_none (by simp; omega), List.getElem?_eq_none (by omega)]
theorem plsW_nil (f g : Nat) : plsW n d f [] = plsW n d g [] := by simp [plsW]
theorem plsW_pop {f : Nat} {ms : List (List UInt32)} (hf : f < d) (hm : ms.length ≤ d) (h0 : ms ≠ []) : plsW n d (nxt d f) ms.tail = (plsW n d f ms).set f (List.replicate (1 + n) 0) := by
  cases ms with
  | nil => exact absurd rfl h0
  | cons x t =>
  apply List.ext_getElem
  · simp [plsW]
  · intro k h1 h2
    have hk : k < d := by rw [plsW_length] at h1; exact h1
    rw [plsW_get, List.getElem_set, List.tail_cons]
    have ht : t.length + 1 ≤ d := by simpa using hm
    split
    · rename_i e
      have : idx d (nxt d f) k = d - 1 := by unfold idx nxt; split <;> split <;> omega
      rw [this, List.getElem?_eq_none (by omega)]
      rfl
    · rename_i e
      have : idx d f k = idx d (nxt d f) k + 1 := by unfold idx nxt; split <;> split <;> split <;> omega
      rw [plsW_get, this, List.getElem?_cons_succ]
end

end Go.Proofs.Ytekijhhpldnmnaa
