import Derived.Test.YtonjmknjjdnjkaaWalkD
namespace Go.Proofs.Ytonjmknjjdnjkaa
open Go.RowKit

/-- A reader in block b, of the bytes xs (in block g), at p, with the fault er. -/
structure Rd (w : World) (b g : Nat) (xs : List UInt8) (p : Nat) (er : Int) : Prop where
  ne : g ≠ b
  blk : Blk w b [.slice (some ⟨g, 0, none⟩) xs.length xs.length, .int .i64 p, .int .i64 er] 112
  bytes : Blk w g (bvs xs) 5
  len : xs.length ≤ maxLen
  le : p ≤ xs.length

theorem Rd.kept {S : Nat → Prop} {w w' : World} {b g p : Nat} {er : Int} {xs : List UInt8} (h : Rd w b g xs p er) (k : Keeps S w w') (hb : ¬ S b) (hg : ¬ S g) : Rd w' b g xs p er :=
  ⟨h.ne, h.blk.kept k hb, h.bytes.kept k hg, h.len, h.le⟩

set_option maxHeartbeats 400000 in
theorem newReader_any (a : Option Addr) (c : Nat) (xs : List UInt8) (w : World) (hx : Seg w a xs) (hl : xs.length ≤ 281474976710656) :
    Calls Try.prog 26 #[.slice a xs.length c] w fun e w' => e = .returned (.pointer (some ⟨w.heap.size + 1, 0, none⟩)) ∧ Rd w' (w.heap.size + 1) w.heap.size xs 0 0 ∧ Keeps (fun _ => False) w w' := by
  obtain ⟨i0, hi, hz0, hz1, hz2⟩ := info_parts Try.info5
  have hmk := run_make_bytes (P := Try.prog) (w := w) 38 5 i0 Try.underlying38 hi hz0 hz1 hz2 xs.length hl
  obtain ⟨W1, hW⟩ : ∃ W1, W1 = w.alloc (.cells (bvs (List.replicate xs.length 0)).toArray 5) := ⟨_, rfl⟩
  rw [← hW] at hmk
  have hK1 : Keeps (fun _ => False) w W1 := by rw [hW]; exact (Keeps.refl _ w).alloc _
  have hB1 : Blk W1 w.heap.size (bvs (List.replicate xs.length 0)) 5 := by rw [hW]; exact Blk.new w _ 5
  have hsz : W1.heap.size = w.heap.size + 1 := by rw [hW]; simp
  have hs1 : Seg W1 a xs := hx.kept hK1 (fun _ _ e => e)
  obtain ⟨W2, hW2⟩ : ∃ W2, W2 = W1.alloc (.cells #[.slice (some ⟨w.heap.size, 0, none⟩) xs.length xs.length, .int .i64 0, .int .i64 0] 112) := ⟨_, rfl⟩
  have hK2 : Keeps (fun _ => False) W1 W2 := by rw [hW2]; exact (Keeps.refl _ W1).alloc _
  have hB2 : Blk W2 w.heap.size (bvs (List.replicate xs.length 0)) 5 := hB1.kept hK2 (fun e => e)
  have hR2 : Blk W2 (w.heap.size + 1) [.slice (some ⟨w.heap.size, 0, none⟩) xs.length xs.length, .int .i64 0, .int .i64 0] 112 := by rw [hW2, ← hsz]; exact Blk.new W1 _ 112
  have hs2 : Seg W2 a xs := hs1.kept hK2 (fun _ _ e => e)
  have hcp := fun ty => run_copy_blk (P := Try.prog) (w := W2) 38 38 ty 5 Try.underlying38 Try.size5 w.heap.size 0 xs.length _ 5 hB2 a c xs hs2 (by simp [bvs_length])
  have e : (bvs (List.replicate xs.length 0)).take 0 ++ bvs xs ++ (bvs (List.replicate xs.length 0)).drop (0 + xs.length) = bvs xs := by simp [bvs]
  rw [e] at hcp
  obtain ⟨W3, hW3⟩ : ∃ W3, W3 = W2.setRow w.heap.size (bvs xs).toArray := ⟨_, rfl⟩
  have hB3 : Blk W3 w.heap.size (bvs xs) 5 := by rw [hW3]; exact hB2.setRow _
  have hK3 : Keeps (fun _ => False) w W3 := by rw [hW3]; exact (hK1.trans hK2 fun _ _ e => e).setRow _ _ (fun h => by omega)
  have hR3 : Blk W3 (w.heap.size + 1) [.slice (some ⟨w.heap.size, 0, none⟩) xs.length xs.length, .int .i64 0, .int .i64 0] 112 := by rw [hW3]; exact hR2.setRow_ne (by omega) _
  rw [← hW3] at hcp
  have fin : Rd W3 (w.heap.size + 1) w.heap.size xs 0 0 := ⟨by omega, hR3, hB3, by unfold maxLen; omega, Nat.zero_le _⟩
  have c2 := hR2.cell (i := 0) rfl
  rw [hW2] at c2
  obtain ⟨n, hnn⟩ : ∃ n, n = xs.length := ⟨_, rfl⟩
  rw [← hnn] at hmk hcp c2 hW2 ⊢
  rw [hW2] at hcp
  have HM : Hid (_ = _) := hmk
  have HC : Hid (∀ ty, _) := hcp
  have HW : Hid (W1.heap.size = w.heap.size + 1) := hsz
  clear hmk hnn hcp hW2 hW3 hW hs2 hs1 hR2 hR3 hB1 hB2 hB3 hK1 hK2 e
  go_enter Try.func26, Try.ntmps26
  go_wp2_with (at_make; refine wpList_make_run rfl (.tmp 5) (.tmp 5) 38 rfl (.int .i64 n) (.int .i64 n) (.slice (some ⟨w.heap.size, 0, none⟩) n n) W1 rfl rfl HM.out ?_; refine Hid.out ?_)
  unfold Hid
  go_wp2_with (refine isCopy (.tmp 14) (.tmp 15) 38 38 rfl ?_; go_must (refine wpList_copy_run rfl (.tmp 14) (.tmp 15) 38 38 rfl (.slice (some ⟨w.heap.size, 0, none⟩) n n) (.slice a n c) (goInt n) W3 rfl rfl HC.out ?_))
  go_ret
  exact ⟨rfl, fin, hK3⟩

set_option maxHeartbeats 400000 in
theorem rFault_any (b g p : Nat) (er : Int) (xs : List UInt8) (w : World) (h : Rd w b g xs p er) :
    Calls Try.prog 31 #[.pointer (some ⟨b, 0, none⟩)] w fun e w' => e = .returned (.int .i64 er) ∧ w' = w := by
  have c2 := h.blk.cell (i := 2) rfl
  go_enter Try.func31, Try.ntmps31
  go_wp2
  go_ret
  exact ⟨rfl, rfl⟩

set_option maxHeartbeats 400000 in
theorem rAt_any (b g p : Nat) (er : Int) (xs : List UInt8) (w : World) (h : Rd w b g xs p er) :
    Calls Try.prog 28 #[.pointer (some ⟨b, 0, none⟩)] w fun e w' => e = .returned (.int .i64 p) ∧ w' = w := by
  have c1 := h.blk.cell (i := 1) rfl
  go_enter Try.func28, Try.ntmps28
  go_wp2
  go_ret
  exact ⟨rfl, rfl⟩

set_option maxHeartbeats 400000 in
theorem rLeft_any (b g p : Nat) (er : Int) (xs : List UInt8) (w : World) (h : Rd w b g xs p er) :
    Calls Try.prog 30 #[.pointer (some ⟨b, 0, none⟩)] w fun e w' => e = .returned (.int .i64 ((xs.length : Int) - p)) ∧ w' = w := by
  have c0 := h.blk.cell (i := 0) rfl
  have c1 := h.blk.cell (i := 1) rfl
  go_enter Try.func30, Try.ntmps30
  go_wp2_with (go_at_call 73; refine (left_any b _ xs.length _ p _ c0 c1 h.len h.le).mono ?_; rintro e w' ⟨rfl, rfl⟩)
  go_ret
  exact ⟨rfl, rfl⟩

set_option maxHeartbeats 400000 in
theorem rEnd_fault (b g p : Nat) (er : Int) (xs : List UInt8) (w : World) (h : Rd w b g xs p er) (he : (er != 0) = true) :
    Calls Try.prog 29 #[.pointer (some ⟨b, 0, none⟩)] w fun e w' => e = .returned (.int .i64 er) ∧ w' = w := by
  go_enter Try.func29, Try.ntmps29
  go_wp2_with (go_at_call 31; refine (rFault_any b g p er xs _ h).mono ?_; rintro e w' ⟨rfl, rfl⟩)
  go_ret
  exact ⟨rfl, rfl⟩

set_option maxHeartbeats 400000 in
theorem rEnd_left (b g p : Nat) (xs : List UInt8) (w : World) (h : Rd w b g xs p 0) (hp : p < xs.length) :
    Calls Try.prog 29 #[.pointer (some ⟨b, 0, none⟩)] w fun e w' => e = .returned (.int .i64 13) ∧ w' = w := by
  have c0 := h.blk.cell (i := 0) rfl
  have c1 := h.blk.cell (i := 1) rfl
  have hlt : (0 : Int) < (xs.length : Int) - (p : Int) := by omega
  go_enter Try.func29, Try.ntmps29
  go_wp2_with (first | (go_at_call 31; refine (rFault_any b g p 0 xs _ h).mono ?_; rintro e w' ⟨rfl, hw'⟩; obtain rfl := hw'.symm) | (go_at_call 73; refine (left_any b _ xs.length _ p _ c0 c1 h.len h.le).mono ?_; rintro e w' ⟨rfl, hw'⟩; obtain rfl := hw'.symm))
  go_ret
  exact ⟨rfl, rfl⟩

set_option maxHeartbeats 400000 in
theorem rEnd_ok (b g p : Nat) (xs : List UInt8) (w : World) (h : Rd w b g xs p 0) (hp : p = xs.length) :
    Calls Try.prog 29 #[.pointer (some ⟨b, 0, none⟩)] w fun e w' => e = .returned (.int .i64 0) ∧ w' = w := by
  have c0 := h.blk.cell (i := 0) rfl
  have c1 := h.blk.cell (i := 1) rfl
  have hlt : ¬ (0 : Int) < (xs.length : Int) - (p : Int) := by omega
  have HP : Hid (p = xs.length) := hp
  clear hp
  go_enter Try.func29, Try.ntmps29
  go_wp2_with (first | (go_at_call 31; refine (rFault_any b g p 0 xs _ h).mono ?_; rintro e w' ⟨rfl, hw'⟩; obtain rfl := hw'.symm) | (go_at_call 73; refine (left_any b _ xs.length _ p _ c0 c1 h.len h.le).mono ?_; rintro e w' ⟨rfl, hw'⟩; obtain rfl := hw'.symm))
  go_ret
  exact ⟨rfl, rfl⟩

set_option maxHeartbeats 400000 in
theorem rnumber_fault (b g p n : Nat) (er : Int) (xs : List UInt8) (w : World) (h : Rd w b g xs p er) (he : (er != 0) = true) :
    Calls Try.prog 81 #[.pointer (some ⟨b, 0, none⟩), .int .i64 n] w fun e w' => e = .returned (.int .u64 0) ∧ w' = w := by
  go_enter Try.func81, Try.ntmps81
  go_wp2_with (go_at_call 31; refine (rFault_any b g p er xs _ h).mono ?_; rintro e w' ⟨rfl, rfl⟩)
  go_ret
  exact ⟨rfl, rfl⟩

theorem Rd.set {w : World} {b g p : Nat} {er : Int} {xs : List UInt8} (h : Rd w b g xs p er) (p' : Nat) (er' : Int) (hp : p' ≤ xs.length) :
    Rd ((w.setCell ⟨b, 1, none⟩ (.int .i64 p')).setCell ⟨b, 2, none⟩ (.int .i64 er')) b g xs p' er' :=
  ⟨h.ne, (h.blk.setCell 1 (.int .i64 p')).setCell 2 (.int .i64 er'), (h.bytes.setCell_ne (a := ⟨b, 1, none⟩) h.ne _).setCell_ne (a := ⟨b, 2, none⟩) h.ne _, h.len, hp⟩
theorem Rd.go {w : World} {b g p : Nat} {er : Int} {xs : List UInt8} (h : Rd w b g xs p er) (p' : Nat) (hp : p' ≤ xs.length) :
    Rd (w.setCell ⟨b, 1, none⟩ (.int .i64 p')) b g xs p' er :=
  ⟨h.ne, h.blk.setCell 1 (.int .i64 p'), h.bytes.setCell_ne (a := ⟨b, 1, none⟩) h.ne _, h.len, hp⟩

set_option maxHeartbeats 400000 in
theorem rnumber_short (b g p n : Nat) (xs : List UInt8) (w : World) (h : Rd w b g xs p 0) (hn : xs.length < p + n) :
    Calls Try.prog 81 #[.pointer (some ⟨b, 0, none⟩), .int .i64 n] w fun e w' => e = .returned (.int .u64 0) ∧ Rd w' b g xs p 12 ∧ Keeps (· = b) w w' := by
  have c0 := h.blk.cell (i := 0) rfl
  have c1 := h.blk.cell (i := 1) rfl
  have c2 := h.blk.cell (i := 2) rfl
  have f1 := h.blk.frozen 1
  have f2 := h.blk.frozen 2
  have hlt : (xs.length : Int) - (p : Int) < (n : Int) := by omega
  have hR := h.set p 12 h.le
  have hK : Keeps (· = b) w ((w.setCell ⟨b, 1, none⟩ (.int .i64 p)).setCell ⟨b, 2, none⟩ (.int .i64 12)) := ((Keeps.refl (· = b) w).setCell ⟨b, 1, none⟩ _ fun _ => rfl).setCell ⟨b, 2, none⟩ _ fun _ => rfl
  have HK : Hid (Keeps _ _ _) := hK
  clear hK
  have HR : Hid (Rd _ b g xs p 12) := hR
  clear hR
  go_enter Try.func81, Try.ntmps81
  go_wp2_with (first | (go_at_call 31; refine (rFault_any b g p 0 xs _ h).mono ?_; rintro e w' ⟨rfl, hw'⟩; obtain rfl := hw'.symm) | (go_at_call 73; refine (left_any b _ xs.length _ p _ c0 c1 h.len h.le).mono ?_; rintro e w' ⟨rfl, hw'⟩; obtain rfl := hw'.symm) | (go_at_call 72; refine (at_any b p _ c1).mono ?_; rintro e w' ⟨rfl, hw'⟩; obtain rfl := hw'.symm) | (go_at_call 74; refine (refuse_any b p 12 p _ _ c1 c2 f1 f2).mono ?_; rintro e w' ⟨rfl, hw'⟩; obtain rfl := hw'.symm))
  go_ret
  exact ⟨rfl, HR.out, HK.out⟩

set_option maxHeartbeats 400000 in
theorem rnumber_ok (b g p n : Nat) (xs : List UInt8) (w : World) (h : Rd w b g xs p 0) (hn : p + n ≤ xs.length) (h8 : n ≤ 8) (h0 : 0 < n) :
    Calls Try.prog 81 #[.pointer (some ⟨b, 0, none⟩), .int .i64 n] w fun e w' => e = .returned (.int .u64 (highN ((xs.drop p).take n))) ∧ Rd w' b g xs (p + n) 0 ∧ Keeps (· = b) w w' := by
  have c0 := h.blk.cell (i := 0) rfl
  have c1 := h.blk.cell (i := 1) rfl
  have f1 := h.blk.frozen 1
  have hlt : ¬ (xs.length : Int) - (p : Int) < (n : Int) := by omega
  have hR := h.go (p + n) hn
  have hK : Keeps (· = b) w (w.setCell ⟨b, 1, none⟩ (.int .i64 ((p + n : Nat) : Int))) := (Keeps.refl _ w).setCell _ _ fun _ => rfl
  have HK : Hid (Keeps _ _ _) := hK
  clear hK
  have HR : Hid (Rd _ b g xs (p + n) 0) := hR
  clear hR
  go_enter Try.func81, Try.ntmps81
  go_wp2_with (first | (go_at_call 31; refine (rFault_any b g p 0 xs _ h).mono ?_; rintro e w' ⟨rfl, hw'⟩; obtain rfl := hw'.symm) | (go_at_call 73; refine (left_any b _ xs.length _ p _ c0 c1 h.len h.le).mono ?_; rintro e w' ⟨rfl, hw'⟩; obtain rfl := hw'.symm) | (go_at_call 75; refine (next_any b g 0 xs.length xs.length p n _ c0 c1 f1 hn (Nat.le_refl _) h.len).mono ?_; rintro e w' ⟨⟨x, rfl, hx⟩, j, hw'⟩; refine Hid.out ?_))
  unfold Hid
  obtain rfl : x = p := by omega
  clear hw'
  go_wp2_with fail
  refine (gather_any g x n _ (bvs xs) ((xs.drop x).take n) 5 _ ?_ ?_ ?_ h8).mono ?_
  · exact HR.out.bytes
  · rw [bvs_take, bvs_drop]
  · rw [List.length_take, List.length_drop]; omega
  · rintro e w' ⟨rfl, hw'⟩
    obtain rfl := hw'.symm
    go_wp2
    go_ret
    exact ⟨rfl, ⟨HR.out.ne, HR.out.blk, HR.out.bytes, HR.out.len, HR.out.le⟩, HK.out.drewN j⟩

def numV (xs : List UInt8) (p : Nat) (er : Int) (n : Nat) : Nat := if er ≠ 0 then 0 else if xs.length < p + n then 0 else highN ((xs.drop p).take n)
def numP (xs : List UInt8) (p : Nat) (er : Int) (n : Nat) : Nat := if er ≠ 0 then p else if xs.length < p + n then p else p + n
def numE (xs : List UInt8) (p : Nat) (er : Int) (n : Nat) : Int := if er ≠ 0 then er else if xs.length < p + n then 12 else 0

theorem numV_lt (xs : List UInt8) (p : Nat) (er : Int) (n : Nat) : numV xs p er n < 256 ^ n := by
  have h0 : 0 < 256 ^ n := Nat.pow_pos (by omega)
  unfold numV
  split
  · exact h0
  · split
    · exact h0
    · refine Nat.lt_of_lt_of_le (highN_lt _) (Nat.pow_le_pow_right (by omega) ?_)
      rw [List.length_take]
      exact Nat.min_le_left _ _

theorem rnumber_any (b g p n : Nat) (er : Int) (xs : List UInt8) (w : World) (h : Rd w b g xs p er) (h8 : n ≤ 8) (h0 : 0 < n) :
    Calls Try.prog 81 #[.pointer (some ⟨b, 0, none⟩), .int .i64 n] w fun e w' => e = .returned (.int .u64 (numV xs p er n)) ∧ Rd w' b g xs (numP xs p er n) (numE xs p er n) ∧ Keeps (· = b) w w' := by
  by_cases he : er ≠ 0
  · refine (rnumber_fault b g p n er xs w h (by simpa using he)).mono fun e w' ⟨h1, h2⟩ => ?_
    simp only [numV, numP, numE, if_pos he]
    exact ⟨h1, h2 ▸ h, h2 ▸ Keeps.refl _ _⟩
  · have he' : er = 0 := by omega
    subst he'
    by_cases hs : xs.length < p + n
    · refine (rnumber_short b g p n xs w h hs).mono fun e w' h1 => ?_
      simp only [numV, numP, numE, if_neg he, if_pos hs]
      exact h1
    · refine (rnumber_ok b g p n xs w h (by omega) h8 h0).mono fun e w' h1 => ?_
      simp only [numV, numP, numE, if_neg he, if_neg hs]
      exact h1

set_option maxHeartbeats 400000 in
theorem rU8_any (b g p : Nat) (er : Int) (xs : List UInt8) (w : World) (h : Rd w b g xs p er) :
    Calls Try.prog 41 #[.pointer (some ⟨b, 0, none⟩)] w fun e w' => e = .returned (.int .u8 (numV xs p er 1)) ∧ Rd w' b g xs (numP xs p er 1) (numE xs p er 1) ∧ Keeps (· = b) w w' := by
  have hlt := numV_lt xs p er 1
  obtain ⟨V, hV⟩ : ∃ V, V = numV xs p er 1 := ⟨_, rfl⟩
  rw [← hV] at hlt
  have hc : IntKind.u8.wrap (V : Int) = V := by rw [IntKind.wrap_u8']; omega
  have hc' : (V : Int) % 256 = V := by omega
  have HV : Hid (V = numV xs p er 1) := hV
  clear hV
  go_enter Try.func41, Try.ntmps41
  go_wp2_with (go_at_call 81; refine (rnumber_any b g p 1 er xs _ h (by omega) (by omega)).mono ?_; rintro e w' ⟨rfl, hr⟩; rw [← HV.out])
  go_ret
  rw [← HV.out]
  exact ⟨rfl, hr⟩

set_option maxHeartbeats 400000 in
theorem rU32_any (b g p : Nat) (er : Int) (xs : List UInt8) (w : World) (h : Rd w b g xs p er) :
    Calls Try.prog 44 #[.pointer (some ⟨b, 0, none⟩)] w fun e w' => e = .returned (.int .u32 (numV xs p er 4)) ∧ Rd w' b g xs (numP xs p er 4) (numE xs p er 4) ∧ Keeps (· = b) w w' := by
  have hlt := numV_lt xs p er 4
  obtain ⟨V, hV⟩ : ∃ V, V = numV xs p er 4 := ⟨_, rfl⟩
  rw [← hV] at hlt
  have hc : IntKind.u32.wrap (V : Int) = V := by rw [IntKind.wrap_u32']; omega
  have hc' : (V : Int) % 4294967296 = V := by omega
  have HV : Hid (V = numV xs p er 4) := hV
  clear hV
  go_enter Try.func44, Try.ntmps44
  go_wp2_with (go_at_call 81; refine (rnumber_any b g p 4 er xs _ h (by omega) (by omega)).mono ?_; rintro e w' ⟨rfl, hr⟩; rw [← HV.out])
  go_ret
  rw [← HV.out]
  exact ⟨rfl, hr⟩

set_option maxHeartbeats 400000 in
theorem rU64_any (b g p : Nat) (er : Int) (xs : List UInt8) (w : World) (h : Rd w b g xs p er) :
    Calls Try.prog 45 #[.pointer (some ⟨b, 0, none⟩)] w fun e w' => e = .returned (.int .u64 (numV xs p er 8)) ∧ Rd w' b g xs (numP xs p er 8) (numE xs p er 8) ∧ Keeps (· = b) w w' := by
  go_enter Try.func45, Try.ntmps45
  go_wp2_with (go_at_call 81; refine (rnumber_any b g p 8 er xs _ h (by omega) (by omega)).mono ?_; rintro e w' ⟨rfl, hr⟩)
  go_ret
  exact ⟨rfl, hr⟩

end Go.Proofs.Ytonjmknjjdnjkaa
