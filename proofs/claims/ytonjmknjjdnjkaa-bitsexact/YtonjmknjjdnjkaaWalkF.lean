import Derived.Test.YtonjmknjjdnjkaaWalkE
import Derived.Laws.BytesString
namespace Go.Proofs.Ytonjmknjjdnjkaa
open Go.RowKit

section
variable {P : Program} {w : World}
theorem wpList_convert_run {ops : Array Oper} {rest : List Oper} {o : Oper} {a : Act} {Q : Exit → Act → World → Prop} (hgd : o.guard = none) (s : Operand) (t k : TypeId)
    (ho : o.op = .convert t k s) (vs v' : Value) (w' : World) (hs : a.eval s = vs)
    (hr : (convert t k vs).run P w = .ok v' w') (h : wpList P ops Q rest (a.put o.dst v') w') : wpList P ops Q (o :: rest) a w :=
  wpList_plain hgd fun _ hK => by
    unfold Oper.wp execOp
    simp only [ho, hs, Sem.run_bind, hr, Result.andThen_ok, Sem.run_pure]
    exact hK _ _ h

theorem foldl_push (xs : List UInt8) : ∀ s : ByteArray, (xs.map fun x => (x.toNat : Int)).foldl (fun r n => r.push (UInt8.ofNat n.toNat)) s = ⟨s.data ++ xs.toArray⟩ := by
  induction xs with
  | nil => intro s; simp
  | cons x r ih =>
    intro s
    simp only [List.map_cons, List.foldl_cons]
    rw [ih]
    have : UInt8.ofNat ((x.toNat : Int)).toNat = x := by simp
    rw [this]
    simp [ByteArray.push]

theorem run_text_of (src dst e : TypeId) (hs : P.underlying src = some (.slice e)) (he : P.underlying e = some (.int .u8)) (hd : P.underlying dst = some .string)
    (g o c : Nat) (l : List Value) (t : TypeId) (hg : Blk w g l t) (xs : List UInt8) (hx : xs = [] ∨ (l.drop o).take xs.length = bvs xs) :
    (convert src dst (.slice (some ⟨g, o, none⟩) xs.length c)).run P w = .ok (.string ⟨xs.toArray⟩) w := by
  rw [run_convert_bytes_string w src dst e _ _ _ hs he hd]
  have hb : bvs xs = (xs.map fun x => (x.toNat : Int)).map (Value.int .u8) := by simp [bvs]
  have hl := run_loadCells_list (P := P) w ⟨g, o, none⟩ (bvs xs) (by
    intro j v hj
    rcases hx with hx | hx
    · subst hx; simp [bvs] at hj
    · rw [← hx, List.getElem?_take] at hj
      split at hj
      · rw [List.getElem?_drop] at hj
        rw [addr_add]
        exact hg.cell hj
      · cases hj)
  rw [bvs_length, hb] at hl
  rw [run_bytesToString w _ _ _ _ hl, foldl_push]
  simp [ByteArray.empty, ByteArray.emptyWithCapacity]
  rfl
end

set_option maxHeartbeats 400000 in
theorem rText_fault (b g p : Nat) (er most : Int) (xs : List UInt8) (w : World) (h : Rd w b g xs p er) (he : (numE xs p er 4 != 0) = true) :
    Calls Try.prog 33 #[.pointer (some ⟨b, 0, none⟩), .int .i64 most] w fun e w' => e = .returned (.string ⟨#[]⟩) ∧ Rd w' b g xs (numP xs p er 4) (numE xs p er 4) ∧ Keeps (· = b) w w' := by
  have hlt := numV_lt xs p er 4
  go_enter Try.func33, Try.ntmps33
  go_wp2_with (first | (go_at_call 28; refine (rAt_any b g p er xs _ h).mono ?_; rintro e w' ⟨rfl, hw'⟩; obtain rfl := hw'.symm) | (go_at_call 44; refine (rU32_any b g p er xs _ h).mono ?_; rintro e w1 ⟨rfl, hr, hK⟩) | (go_at_call 31; refine (rFault_any b g _ _ xs _ hr).mono ?_; rintro e w' ⟨rfl, hw'⟩; obtain rfl := hw'.symm))
  go_ret
  exact ⟨rfl, hr, hK⟩

set_option maxHeartbeats 400000 in
theorem rText_most (b g p N : Nat) (most : Int) (xs : List UInt8) (w : World) (hRd : Rd w b g xs p 0) (hp : p + 4 ≤ xs.length) (hN : N = highN ((xs.drop p).take 4)) (hm : max most 0 < (N : Int)) :
    Calls Try.prog 33 #[.pointer (some ⟨b, 0, none⟩), .int .i64 most] w fun e w' => e = .returned (.string ⟨#[]⟩) ∧ Rd w' b g xs p 14 ∧ Keeps (· = b) w w' := by
  have h1 : ¬ xs.length < p + 4 := by omega
  have hV : numV xs p 0 4 = N := by simp [numV, h1, hN]
  have hP : numP xs p 0 4 = p + 4 := by simp [numP, h1]
  have hE : numE xs p 0 4 = 0 := by simp [numE, h1]
  have hlt := numV_lt xs p 0 4
  rw [hV] at hlt
  have hU := rU32_any b g p 0 xs w hRd
  rw [hV, hP, hE] at hU
  have HU : Hid (Calls _ _ _ _ _) := hU
  clear hU hV hP hE hN h1
  go_enter Try.func33, Try.ntmps33
  go_wp2_with (first | (go_at_call 28; refine (rAt_any b g p 0 xs _ hRd).mono ?_; rintro e w' ⟨rfl, hw'⟩; obtain rfl := hw'.symm) | (go_at_call 44; refine HU.out.mono ?_; rintro e w1 ⟨rfl, hr, hK⟩) | (go_at_call 31; refine (rFault_any b g _ _ xs _ hr).mono ?_; rintro e w' ⟨rfl, hw'⟩; obtain rfl := hw'.symm) | (go_at_call 74; refine Hid.out ?_))
  all_goals
    unfold Hid
    refine (refuse_any b p 14 ((p + 4 : Nat) : Int) _ _ (hr.blk.cell (i := 1) rfl) (hr.blk.cell (i := 2) rfl) (hr.blk.frozen 1) (hr.blk.frozen 2)).mono ?_
    rintro e w' ⟨rfl, hw'⟩
    have hR := hr.set p 14 hRd.le
    have hK2 := ((hK.setCell ⟨b, 1, none⟩ (.int .i64 p) fun _ => rfl).setCell ⟨b, 2, none⟩ (.int .i64 14) fun _ => rfl)
    rw [← hw'] at hR hK2
    have HR : Hid (Rd _ _ _ _ _ _) := hR
    have HK : Hid (Keeps _ _ _) := hK2
    clear hw' hR hK2
    go_wp2
    go_ret
    exact ⟨rfl, HR.out, HK.out⟩

set_option maxHeartbeats 400000 in
theorem rText_short (b g p N : Nat) (most : Int) (xs : List UInt8) (w : World) (hRd : Rd w b g xs p 0) (hp : p + 4 ≤ xs.length) (hN : N = highN ((xs.drop p).take 4)) (hm : ¬ max most 0 < (N : Int)) (hs : xs.length < p + 4 + N) :
    Calls Try.prog 33 #[.pointer (some ⟨b, 0, none⟩), .int .i64 most] w fun e w' => e = .returned (.string ⟨#[]⟩) ∧ Rd w' b g xs p 12 ∧ Keeps (· = b) w w' := by
  have h1 : ¬ xs.length < p + 4 := by omega
  have hV : numV xs p 0 4 = N := by simp [numV, h1, hN]
  have hP : numP xs p 0 4 = p + 4 := by simp [numP, h1]
  have hE : numE xs p 0 4 = 0 := by simp [numE, h1]
  have hlt := numV_lt xs p 0 4
  rw [hV] at hlt
  have hU := rU32_any b g p 0 xs w hRd
  rw [hV, hP, hE] at hU
  have HU : Hid (Calls _ _ _ _ _) := hU
  have hlm := hRd.len
  unfold maxLen at hlm
  have hgt : (xs.length : Int) - ((p + 4 : Nat) : Int) < (N : Int) := by omega
  clear hU hV hP hE hN h1
  go_enter Try.func33, Try.ntmps33
  go_wp2_with (first | (go_at_call 28; refine (rAt_any b g p 0 xs _ hRd).mono ?_; rintro e w' ⟨rfl, hw'⟩; obtain rfl := hw'.symm) | (go_at_call 44; refine HU.out.mono ?_; rintro e w1 ⟨rfl, hr, hK⟩) | (go_at_call 31; refine (rFault_any b g _ _ xs _ hr).mono ?_; rintro e w' ⟨rfl, hw'⟩; obtain rfl := hw'.symm) | (go_at_call 73; refine (left_any b _ xs.length _ (p + 4) _ (hr.blk.cell (i := 0) rfl) (hr.blk.cell (i := 1) rfl) hRd.len hp).mono ?_; rintro e w' ⟨rfl, hw'⟩; obtain rfl := hw'.symm) | (go_at_call 74; refine Hid.out ?_))
  all_goals
    unfold Hid
    refine (refuse_any b p 12 ((p + 4 : Nat) : Int) _ _ (hr.blk.cell (i := 1) rfl) (hr.blk.cell (i := 2) rfl) (hr.blk.frozen 1) (hr.blk.frozen 2)).mono ?_
    rintro e w' ⟨rfl, hw'⟩
    have hR := hr.set p 12 hRd.le
    have hK2 := ((hK.setCell ⟨b, 1, none⟩ (.int .i64 p) fun _ => rfl).setCell ⟨b, 2, none⟩ (.int .i64 12) fun _ => rfl)
    rw [← hw'] at hR hK2
    have HR : Hid (Rd _ _ _ _ _ _) := hR
    have HK : Hid (Keeps _ _ _) := hK2
    clear hw' hR hK2
    go_wp2
    go_ret
    exact ⟨rfl, HR.out, HK.out⟩

set_option maxHeartbeats 400000 in
theorem rText_ok (b g p N : Nat) (most : Int) (xs : List UInt8) (w : World) (hRd : Rd w b g xs p 0) (hp : p + 4 + N ≤ xs.length) (hN : N = highN ((xs.drop p).take 4)) (hm : ¬ max most 0 < (N : Int)) :
    Calls Try.prog 33 #[.pointer (some ⟨b, 0, none⟩), .int .i64 most] w fun e w' => e = .returned (.string ⟨((xs.drop (p + 4)).take N).toArray⟩) ∧ Rd w' b g xs (p + 4 + N) 0 ∧ Keeps (· = b) w w' := by
  have h1 : ¬ xs.length < p + 4 := by omega
  have hV : numV xs p 0 4 = N := by simp [numV, h1, hN]
  have hP : numP xs p 0 4 = p + 4 := by simp [numP, h1]
  have hE : numE xs p 0 4 = 0 := by simp [numE, h1]
  have hlt := numV_lt xs p 0 4
  rw [hV] at hlt
  have hU := rU32_any b g p 0 xs w hRd
  rw [hV, hP, hE] at hU
  have HU : Hid (Calls _ _ _ _ _) := hU
  have hlm := hRd.len
  unfold maxLen at hlm
  have hgt : ¬ (xs.length : Int) - ((p + 4 : Nat) : Int) < (N : Int) := by omega
  clear hU hV hP hE hN h1
  go_enter Try.func33, Try.ntmps33
  go_wp2_with (first | (go_at_call 28; refine (rAt_any b g p 0 xs _ hRd).mono ?_; rintro e w' ⟨rfl, hw'⟩; obtain rfl := hw'.symm) | (go_at_call 44; refine HU.out.mono ?_; rintro e w1 ⟨rfl, hr, hK⟩) | (go_at_call 31; refine (rFault_any b g _ _ xs _ hr).mono ?_; rintro e w' ⟨rfl, hw'⟩; obtain rfl := hw'.symm) | (go_at_call 73; refine (left_any b _ xs.length _ (p + 4) _ (hr.blk.cell (i := 0) rfl) (hr.blk.cell (i := 1) rfl) hRd.len (by omega)).mono ?_; rintro e w' ⟨rfl, hw'⟩; obtain rfl := hw'.symm) | (go_at_call 75; refine Hid.out ?_))
  all_goals
    unfold Hid
    refine (next_any b g 0 xs.length xs.length (p + 4) N _ (hr.blk.cell (i := 0) rfl) (hr.blk.cell (i := 1) rfl) (hr.blk.frozen 1) hp (Nat.le_refl _) hRd.len).mono ?_
    rintro e w' ⟨⟨x, rfl, hx⟩, j, hw'⟩
    have hR := hr.go (p + 4 + N) hp
    have hK2 := hK.setCell ⟨b, 1, none⟩ (.int .i64 ((p + 4 + N : Nat) : Int)) fun _ => rfl
    have hR' : Rd w' b g xs (p + 4 + N) 0 := by rw [hw']; exact ⟨hR.ne, hR.blk, hR.bytes, hR.len, hR.le⟩
    have hK' : Keeps (· = b) w w' := by rw [hw']; exact hK2.drewN j
    have hlen : ((xs.drop (p + 4)).take N).length = N := by rw [List.length_take, List.length_drop]; omega
    have hcv := run_text_of (P := Try.prog) (w := w') 38 9 5 Try.underlying38 Try.underlying5 Try.underlying9 g x (xs.length - (p + 4)) (bvs xs) 5 hR'.bytes ((xs.drop (p + 4)).take N) (by
      rcases hx with hx | hx
      · right; rw [hlen, hx, Nat.zero_add, bvs_take, bvs_drop]
      · left; exact List.eq_nil_of_length_eq_zero (by omega))
    rw [hlen] at hcv
    have HC : Hid (_ = _) := hcv
    have HR : Hid (Rd _ _ _ _ _ _) := hR'
    have HK : Hid (Keeps _ _ _) := hK'
    clear hw' hR hK2 hR' hK' hlen hcv hr hK
    go_wp2_with (refine wpList_convert_run rfl (.tmp 35) 38 9 rfl (.slice (some ⟨g, x, none⟩) N (xs.length - (p + 4))) _ w' rfl HC.out ?_)
    go_ret
    exact ⟨rfl, HR.out, HK.out⟩

/-- What Text answers, and where it leaves the reader. -/
def txtN (xs : List UInt8) (p : Nat) : Nat := highN ((xs.drop p).take 4)
def txtE (xs : List UInt8) (p : Nat) (er most : Int) : Int :=
  if er ≠ 0 then er else if xs.length < p + 4 then 12 else if max most 0 < (txtN xs p : Int) then 14 else if xs.length < p + 4 + txtN xs p then 12 else 0
def txtOk (xs : List UInt8) (p : Nat) (er most : Int) : Prop := er = 0 ∧ p + 4 ≤ xs.length ∧ ¬ max most 0 < (txtN xs p : Int) ∧ p + 4 + txtN xs p ≤ xs.length
def txtV (xs : List UInt8) (p : Nat) (er most : Int) : List UInt8 := if txtE xs p er most = 0 then (xs.drop (p + 4)).take (txtN xs p) else []
def txtP (xs : List UInt8) (p : Nat) (er most : Int) : Nat := if txtE xs p er most = 0 then p + 4 + txtN xs p else p

theorem rText_any (b g p : Nat) (er most : Int) (xs : List UInt8) (w : World) (hRd : Rd w b g xs p er) :
    Calls Try.prog 33 #[.pointer (some ⟨b, 0, none⟩), .int .i64 most] w fun e w' => e = .returned (.string ⟨(txtV xs p er most).toArray⟩) ∧ Rd w' b g xs (txtP xs p er most) (txtE xs p er most) ∧ Keeps (· = b) w w' := by
  by_cases he : er ≠ 0
  · have e1 : txtE xs p er most = er := by unfold txtE; rw [if_pos he]
    have e2 : txtV xs p er most = [] := by unfold txtV; rw [e1, if_neg he]
    have e3 : txtP xs p er most = p := by unfold txtP; rw [e1, if_neg he]
    have n1 : numE xs p er 4 = er := by unfold numE; rw [if_pos he]
    have n2 : numP xs p er 4 = p := by unfold numP; rw [if_pos he]
    have := rText_fault b g p er most xs w hRd (by rw [n1]; simpa using he)
    rw [n1, n2] at this
    rw [e1, e2, e3]
    exact this
  · obtain rfl : er = 0 := by omega
    by_cases h4 : xs.length < p + 4
    · have e1 : txtE xs p 0 most = 12 := by unfold txtE; rw [if_neg he, if_pos h4]
      have e2 : txtV xs p 0 most = [] := by unfold txtV; rw [e1, if_neg (by decide)]
      have e3 : txtP xs p 0 most = p := by unfold txtP; rw [e1, if_neg (by decide)]
      have n1 : numE xs p 0 4 = 12 := by unfold numE; rw [if_neg he, if_pos h4]
      have n2 : numP xs p 0 4 = p := by unfold numP; rw [if_neg he, if_pos h4]
      have := rText_fault b g p 0 most xs w hRd (by rw [n1]; decide)
      rw [n1, n2] at this
      rw [e1, e2, e3]
      exact this
    · by_cases hm : max most 0 < (txtN xs p : Int)
      · have e1 : txtE xs p 0 most = 14 := by unfold txtE; rw [if_neg he, if_neg h4, if_pos hm]
        have e2 : txtV xs p 0 most = [] := by unfold txtV; rw [e1, if_neg (by decide)]
        have e3 : txtP xs p 0 most = p := by unfold txtP; rw [e1, if_neg (by decide)]
        rw [e1, e2, e3]
        exact rText_most b g p (txtN xs p) most xs w hRd (by omega) rfl hm
      · by_cases hs : xs.length < p + 4 + txtN xs p
        · have e1 : txtE xs p 0 most = 12 := by unfold txtE; rw [if_neg he, if_neg h4, if_neg hm, if_pos hs]
          have e2 : txtV xs p 0 most = [] := by unfold txtV; rw [e1, if_neg (by decide)]
          have e3 : txtP xs p 0 most = p := by unfold txtP; rw [e1, if_neg (by decide)]
          rw [e1, e2, e3]
          exact rText_short b g p (txtN xs p) most xs w hRd (by omega) rfl hm hs
        · have e1 : txtE xs p 0 most = 0 := by unfold txtE; rw [if_neg he, if_neg h4, if_neg hm, if_neg hs]
          have e2 : txtV xs p 0 most = (xs.drop (p + 4)).take (txtN xs p) := by unfold txtV; rw [e1, if_pos rfl]
          have e3 : txtP xs p 0 most = p + 4 + txtN xs p := by unfold txtP; rw [e1, if_pos rfl]
          rw [e1, e2, e3]
          exact rText_ok b g p (txtN xs p) most xs w hRd (by omega) rfl hm

def endE (xs : List UInt8) (p : Nat) (er : Int) : Int := if er ≠ 0 then er else if p < xs.length then 13 else 0
theorem rEnd_any (b g p : Nat) (er : Int) (xs : List UInt8) (w : World) (h : Rd w b g xs p er) :
    Calls Try.prog 29 #[.pointer (some ⟨b, 0, none⟩)] w fun e w' => e = .returned (.int .i64 (endE xs p er)) ∧ w' = w := by
  unfold endE
  by_cases he : er ≠ 0
  · rw [if_pos he]
    exact rEnd_fault b g p er xs w h (by simpa using he)
  · obtain rfl : er = 0 := by omega
    rw [if_neg he]
    by_cases hp : p < xs.length
    · rw [if_pos hp]; exact rEnd_left b g p xs w h hp
    · rw [if_neg hp]; exact rEnd_ok b g p xs w h (by have := h.le; omega)
end Go.Proofs.Ytonjmknjjdnjkaa
