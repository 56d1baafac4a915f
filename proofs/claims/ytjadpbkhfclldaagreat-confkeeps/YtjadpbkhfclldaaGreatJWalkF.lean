import Derived.Test.YtjadpbkhfclldaaGreatJWalkD
import Derived.Laws.BytesString
namespace Go.Proofs.YtjadpbkhfclldaaGreat
open Go.RowKit
set_option maxRecDepth 6000

/-- A reader in block b, of the bytes xs (in block g), at p, with the fault er. -/
structure Rd (w : World) (b g : Nat) (xs : List UInt8) (p : Nat) (er : Int) : Prop where
  ne : g ≠ b
  blk : Blk w b [.slice (some ⟨g, 0, none⟩) xs.length xs.length, .int .i64 p, .int .i64 er] 131
  bytes : Blk w g (bvs xs) 5
  len : xs.length ≤ maxLen
  le : p ≤ xs.length

theorem Rd.kept {S : Nat → Prop} {w w' : World} {b g p : Nat} {er : Int} {xs : List UInt8} (h : Rd w b g xs p er) (k : Keeps S w w') (hb : ¬ S b) (hg : ¬ S g) : Rd w' b g xs p er :=
  ⟨h.ne, h.blk.kept k hb, h.bytes.kept k hg, h.len, h.le⟩

set_option maxHeartbeats 400000 in
theorem newReader_any (a : Option Addr) (c : Nat) (xs : List UInt8) (w : World) (hx : Seg w a xs) (hl : xs.length ≤ 281474976710656) :
    Calls Tryz.prog 65 #[.slice a xs.length c] w fun e w' => e = .returned (.pointer (some ⟨w.heap.size + 1, 0, none⟩)) ∧ Rd w' (w.heap.size + 1) w.heap.size xs 0 0 ∧ Keeps (fun _ => False) w w' := by
  obtain ⟨i0, hi, hz0, hz1, hz2⟩ := info_parts Tryz.info5
  have hmk := run_make_bytes (P := Tryz.prog) (w := w) 28 5 i0 Tryz.underlying28 hi hz0 hz1 hz2 xs.length hl
  obtain ⟨W1, hW⟩ : ∃ W1, W1 = w.alloc (.cells (bvs (List.replicate xs.length 0)).toArray 5) := ⟨_, rfl⟩
  rw [← hW] at hmk
  have hK1 : Keeps (fun _ => False) w W1 := by rw [hW]; exact (Keeps.refl _ w).alloc _
  have hB1 : Blk W1 w.heap.size (bvs (List.replicate xs.length 0)) 5 := by rw [hW]; exact Blk.new w _ 5
  have hsz : W1.heap.size = w.heap.size + 1 := by rw [hW]; simp
  have hs1 : Seg W1 a xs := hx.kept hK1 (fun _ _ e => e)
  obtain ⟨W2, hW2⟩ : ∃ W2, W2 = W1.alloc (.cells #[.slice (some ⟨w.heap.size, 0, none⟩) xs.length xs.length, .int .i64 0, .int .i64 0] 131) := ⟨_, rfl⟩
  have hK2 : Keeps (fun _ => False) W1 W2 := by rw [hW2]; exact (Keeps.refl _ W1).alloc _
  have hB2 : Blk W2 w.heap.size (bvs (List.replicate xs.length 0)) 5 := hB1.kept hK2 (fun e => e)
  have hR2 : Blk W2 (w.heap.size + 1) [.slice (some ⟨w.heap.size, 0, none⟩) xs.length xs.length, .int .i64 0, .int .i64 0] 131 := by rw [hW2, ← hsz]; exact Blk.new W1 _ 131
  have hs2 : Seg W2 a xs := hs1.kept hK2 (fun _ _ e => e)
  have hcp := fun ty => run_copy_blk (P := Tryz.prog) (w := W2) 28 28 ty 5 Tryz.underlying28 Tryz.size5 w.heap.size 0 xs.length _ 5 hB2 a c xs hs2 (by simp [bvs_length])
  have e : (bvs (List.replicate xs.length 0)).take 0 ++ bvs xs ++ (bvs (List.replicate xs.length 0)).drop (0 + xs.length) = bvs xs := by simp [bvs]
  rw [e] at hcp
  obtain ⟨W3, hW3⟩ : ∃ W3, W3 = W2.setRow w.heap.size (bvs xs).toArray := ⟨_, rfl⟩
  have hB3 : Blk W3 w.heap.size (bvs xs) 5 := by rw [hW3]; exact hB2.setRow _
  have hK3 : Keeps (fun _ => False) w W3 := by rw [hW3]; exact (hK1.trans hK2 fun _ _ e => e).setRow _ _ (fun h => by omega)
  have hR3 : Blk W3 (w.heap.size + 1) [.slice (some ⟨w.heap.size, 0, none⟩) xs.length xs.length, .int .i64 0, .int .i64 0] 131 := by rw [hW3]; exact hR2.setRow_ne (by omega) _
  rw [← hW3] at hcp
  have fin : Rd W3 (w.heap.size + 1) w.heap.size xs 0 0 := ⟨by omega, hR3, hB3, by unfold maxLen; omega, Nat.zero_le _⟩
  have c2 := hR2.cell (i := 0) rfl
  rw [hW2] at c2
  obtain ⟨n, hnn⟩ : ∃ n, n = xs.length := ⟨_, rfl⟩
  rw [← hnn] at hmk hcp c2 hW2 ⊢
  rw [hW2] at hcp
  have HM : Hid (_ = _) := hmk
  have HC : Hid (∀ ty, _) := hcp
  have HW : Hid (W1.heap.size = w.heap.size + 1) := hsz
  clear hmk hnn hcp hW2 hW3 hW hs2 hs1 hR2 hR3 hB1 hB2 hB3 hK1 hK2 e
  go_enter Tryz.func65, Tryz.ntmps65
  go_wp2_with (at_make; refine wpList_make_run rfl (.tmp 5) (.tmp 5) 28 rfl (.int .i64 n) (.int .i64 n) (.slice (some ⟨w.heap.size, 0, none⟩) n n) W1 rfl rfl HM.out ?_; refine Hid.out ?_)
  unfold Hid
  go_wp2_with (refine isCopy (.tmp 14) (.tmp 15) 28 28 rfl ?_; go_must (refine wpList_copy_run rfl (.tmp 14) (.tmp 15) 28 28 rfl (.slice (some ⟨w.heap.size, 0, none⟩) n n) (.slice a n c) (goInt n) W3 rfl rfl HC.out ?_))
  go_ret
  exact ⟨rfl, fin, hK3⟩

set_option maxHeartbeats 400000 in
theorem rFault_any (b g p : Nat) (er : Int) (xs : List UInt8) (w : World) (h : Rd w b g xs p er) :
    Calls Tryz.prog 88 #[.pointer (some ⟨b, 0, none⟩)] w fun e w' => e = .returned (.int .i64 er) ∧ w' = w := by
  have c2 := h.blk.cell (i := 2) rfl
  go_enter Tryz.func88, Tryz.ntmps88
  go_wp2
  go_ret
  exact ⟨rfl, rfl⟩

set_option maxHeartbeats 400000 in
theorem rAt_any (b g p : Nat) (er : Int) (xs : List UInt8) (w : World) (h : Rd w b g xs p er) :
    Calls Tryz.prog 73 #[.pointer (some ⟨b, 0, none⟩)] w fun e w' => e = .returned (.int .i64 p) ∧ w' = w := by
  have c1 := h.blk.cell (i := 1) rfl
  go_enter Tryz.func73, Tryz.ntmps73
  go_wp2
  go_ret
  exact ⟨rfl, rfl⟩

set_option maxHeartbeats 400000 in
theorem rLeft_any (b g p : Nat) (er : Int) (xs : List UInt8) (w : World) (h : Rd w b g xs p er) :
    Calls Tryz.prog 83 #[.pointer (some ⟨b, 0, none⟩)] w fun e w' => e = .returned (.int .i64 ((xs.length : Int) - p)) ∧ w' = w := by
  have c0 := h.blk.cell (i := 0) rfl
  have c1 := h.blk.cell (i := 1) rfl
  go_enter Tryz.func83, Tryz.ntmps83
  go_wp2_with (go_at_call 100; refine (left_any b _ xs.length _ p _ c0 c1 h.len h.le).mono ?_; rintro e w' ⟨rfl, rfl⟩)
  go_ret
  exact ⟨rfl, rfl⟩

set_option maxHeartbeats 400000 in
theorem rnumber_fault (b g p n : Nat) (er : Int) (xs : List UInt8) (w : World) (h : Rd w b g xs p er) (he : (er != 0) = true) :
    Calls Tryz.prog 89 #[.pointer (some ⟨b, 0, none⟩), .int .i64 n] w fun e w' => e = .returned (.int .u64 0) ∧ w' = w := by
  go_enter Tryz.func89, Tryz.ntmps89
  go_wp2_with (go_at_call 88; refine (rFault_any b g p er xs _ h).mono ?_; rintro e w' ⟨rfl, rfl⟩)
  go_ret
  exact ⟨rfl, rfl⟩

theorem Rd.set {w : World} {b g p : Nat} {er : Int} {xs : List UInt8} (h : Rd w b g xs p er) (p' : Nat) (er' : Int) (hp : p' ≤ xs.length) :
    Rd ((w.setCell ⟨b, 1, none⟩ (.int .i64 p')).setCell ⟨b, 2, none⟩ (.int .i64 er')) b g xs p' er' :=
  ⟨h.ne, (h.blk.setCell 1 (.int .i64 p')).setCell 2 (.int .i64 er'), (h.bytes.setCell_ne (a := ⟨b, 1, none⟩) h.ne _).setCell_ne (a := ⟨b, 2, none⟩) h.ne _, h.len, hp⟩
theorem Rd.go {w : World} {b g p : Nat} {er : Int} {xs : List UInt8} (h : Rd w b g xs p er) (p' : Nat) (hp : p' ≤ xs.length) :
    Rd (w.setCell ⟨b, 1, none⟩ (.int .i64 p')) b g xs p' er :=
  ⟨h.ne, h.blk.setCell 1 (.int .i64 p'), h.bytes.setCell_ne (a := ⟨b, 1, none⟩) h.ne _, h.len, hp⟩

set_option maxHeartbeats 400000 in
theorem rnumber_short (b g p n : Nat) (xs : List UInt8) (w : World) (h : Rd w b g xs p 0) (hn : xs.length < p + n) :
    Calls Tryz.prog 89 #[.pointer (some ⟨b, 0, none⟩), .int .i64 n] w fun e w' => e = .returned (.int .u64 0) ∧ Rd w' b g xs p 12 ∧ Keeps (· = b) w w' := by
  have c0 := h.blk.cell (i := 0) rfl
  have c1 := h.blk.cell (i := 1) rfl
  have c2 := h.blk.cell (i := 2) rfl
  have f1 := h.blk.frozen 1
  have f2 := h.blk.frozen 2
  have hlt : (xs.length : Int) - (p : Int) < (n : Int) := by omega
  have hR := h.set p 12 h.le
  have hK : Keeps (· = b) w ((w.setCell ⟨b, 1, none⟩ (.int .i64 p)).setCell ⟨b, 2, none⟩ (.int .i64 12)) := ((Keeps.refl (· = b) w).setCell ⟨b, 1, none⟩ _ fun _ => rfl).setCell ⟨b, 2, none⟩ _ fun _ => rfl
  have HK : Hid (Keeps _ _ _) := hK
  clear hK
  have HR : Hid (Rd _ b g xs p 12) := hR
  clear hR
  go_enter Tryz.func89, Tryz.ntmps89
  go_wp2_with (first | (go_at_call 88; refine (rFault_any b g p 0 xs _ h).mono ?_; rintro e w' ⟨rfl, hw'⟩; obtain rfl := hw'.symm) | (go_at_call 100; refine (left_any b _ xs.length _ p _ c0 c1 h.len h.le).mono ?_; rintro e w' ⟨rfl, hw'⟩; obtain rfl := hw'.symm) | (go_at_call 87; refine (at_any b p _ c1).mono ?_; rintro e w' ⟨rfl, hw'⟩; obtain rfl := hw'.symm) | (go_at_call 102; refine (refuse_any b p 12 p _ _ c1 c2 f1 f2).mono ?_; rintro e w' ⟨rfl, hw'⟩; obtain rfl := hw'.symm))
  go_ret
  exact ⟨rfl, HR.out, HK.out⟩

set_option maxHeartbeats 400000 in
theorem rnumber_ok (b g p n : Nat) (xs : List UInt8) (w : World) (h : Rd w b g xs p 0) (hn : p + n ≤ xs.length) (h8 : n ≤ 8) (h0 : 0 < n) :
    Calls Tryz.prog 89 #[.pointer (some ⟨b, 0, none⟩), .int .i64 n] w fun e w' => e = .returned (.int .u64 (highN ((xs.drop p).take n))) ∧ Rd w' b g xs (p + n) 0 ∧ Keeps (· = b) w w' := by
  have c0 := h.blk.cell (i := 0) rfl
  have c1 := h.blk.cell (i := 1) rfl
  have f1 := h.blk.frozen 1
  have hlt : ¬ (xs.length : Int) - (p : Int) < (n : Int) := by omega
  have hR := h.go (p + n) hn
  have hK : Keeps (· = b) w (w.setCell ⟨b, 1, none⟩ (.int .i64 ((p + n : Nat) : Int))) := (Keeps.refl _ w).setCell _ _ fun _ => rfl
  have HK : Hid (Keeps _ _ _) := hK
  clear hK
  have HR : Hid (Rd _ b g xs (p + n) 0) := hR
  clear hR
  go_enter Tryz.func89, Tryz.ntmps89
  go_wp2_with (first | (go_at_call 88; refine (rFault_any b g p 0 xs _ h).mono ?_; rintro e w' ⟨rfl, hw'⟩; obtain rfl := hw'.symm) | (go_at_call 100; refine (left_any b _ xs.length _ p _ c0 c1 h.len h.le).mono ?_; rintro e w' ⟨rfl, hw'⟩; obtain rfl := hw'.symm) | (go_at_call 71; refine (next_any b g 0 xs.length xs.length p n _ c0 c1 f1 hn (Nat.le_refl _) h.len).mono ?_; rintro e w' ⟨⟨x, rfl, hx⟩, j, hw'⟩; refine Hid.out ?_))
  unfold Hid
  obtain rfl : x = p := by omega
  clear hw'
  go_wp2_with fail
  refine (gather_any g x n _ (bvs xs) ((xs.drop x).take n) 5 _ ?_ ?_ ?_ h8).mono ?_
  · exact HR.out.bytes
  · rw [bvs_take, bvs_drop]
  · rw [List.length_take, List.length_drop]; omega
  · rintro e w' ⟨rfl, hw'⟩
    obtain rfl := hw'.symm
    go_wp2
    go_ret
    exact ⟨rfl, ⟨HR.out.ne, HR.out.blk, HR.out.bytes, HR.out.len, HR.out.le⟩, HK.out.drewN j⟩

def numV (xs : List UInt8) (p : Nat) (er : Int) (n : Nat) : Nat := if er ≠ 0 then 0 else if xs.length < p + n then 0 else highN ((xs.drop p).take n)
def numP (xs : List UInt8) (p : Nat) (er : Int) (n : Nat) : Nat := if er ≠ 0 then p else if xs.length < p + n then p else p + n
def numE (xs : List UInt8) (p : Nat) (er : Int) (n : Nat) : Int := if er ≠ 0 then er else if xs.length < p + n then 12 else 0

theorem numV_lt (xs : List UInt8) (p : Nat) (er : Int) (n : Nat) : numV xs p er n < 256 ^ n := by
  have h0 : 0 < 256 ^ n := Nat.pow_pos (by omega)
  unfold numV
  split
  · exact h0
  · split
    · exact h0
    · refine Nat.lt_of_lt_of_le (highN_lt _) (Nat.pow_le_pow_right (by omega) ?_)
      rw [List.length_take]
      exact Nat.min_le_left _ _

theorem rnumber_any (b g p n : Nat) (er : Int) (xs : List UInt8) (w : World) (h : Rd w b g xs p er) (h8 : n ≤ 8) (h0 : 0 < n) :
    Calls Tryz.prog 89 #[.pointer (some ⟨b, 0, none⟩), .int .i64 n] w fun e w' => e = .returned (.int .u64 (numV xs p er n)) ∧ Rd w' b g xs (numP xs p er n) (numE xs p er n) ∧ Keeps (· = b) w w' := by
  by_cases he : er ≠ 0
  · refine (rnumber_fault b g p n er xs w h (by simpa using he)).mono fun e w' ⟨h1, h2⟩ => ?_
    simp only [numV, numP, numE, if_pos he]
    exact ⟨h1, h2 ▸ h, h2 ▸ Keeps.refl _ _⟩
  · have he' : er = 0 := by omega
    subst he'
    by_cases hs : xs.length < p + n
    · refine (rnumber_short b g p n xs w h hs).mono fun e w' h1 => ?_
      simp only [numV, numP, numE, if_neg he, if_pos hs]
      exact h1
    · refine (rnumber_ok b g p n xs w h (by omega) h8 h0).mono fun e w' h1 => ?_
      simp only [numV, numP, numE, if_neg he, if_neg hs]
      exact h1

set_option maxHeartbeats 400000 in
theorem rU8_any (b g p : Nat) (er : Int) (xs : List UInt8) (w : World) (h : Rd w b g xs p er) :
    Calls Tryz.prog 91 #[.pointer (some ⟨b, 0, none⟩)] w fun e w' => e = .returned (.int .u8 (numV xs p er 1)) ∧ Rd w' b g xs (numP xs p er 1) (numE xs p er 1) ∧ Keeps (· = b) w w' := by
  have hlt := numV_lt xs p er 1
  obtain ⟨V, hV⟩ : ∃ V, V = numV xs p er 1 := ⟨_, rfl⟩
  rw [← hV] at hlt
  have hc : IntKind.u8.wrap (V : Int) = V := by rw [IntKind.wrap_u8']; omega
  have hc' : (V : Int) % 256 = V := by omega
  have HV : Hid (V = numV xs p er 1) := hV
  clear hV
  go_enter Tryz.func91, Tryz.ntmps91
  go_wp2_with (go_at_call 89; refine (rnumber_any b g p 1 er xs _ h (by omega) (by omega)).mono ?_; rintro e w' ⟨rfl, hr⟩; rw [← HV.out])
  go_ret
  rw [← HV.out]
  exact ⟨rfl, hr⟩

set_option maxHeartbeats 400000 in
theorem rU32_any (b g p : Nat) (er : Int) (xs : List UInt8) (w : World) (h : Rd w b g xs p er) :
    Calls Tryz.prog 75 #[.pointer (some ⟨b, 0, none⟩)] w fun e w' => e = .returned (.int .u32 (numV xs p er 4)) ∧ Rd w' b g xs (numP xs p er 4) (numE xs p er 4) ∧ Keeps (· = b) w w' := by
  have hlt := numV_lt xs p er 4
  obtain ⟨V, hV⟩ : ∃ V, V = numV xs p er 4 := ⟨_, rfl⟩
  rw [← hV] at hlt
  have hc : IntKind.u32.wrap (V : Int) = V := by rw [IntKind.wrap_u32']; omega
  have hc' : (V : Int) % 4294967296 = V := by omega
  have HV : Hid (V = numV xs p er 4) := hV
  clear hV
  go_enter Tryz.func75, Tryz.ntmps75
  go_wp2_with (go_at_call 89; refine (rnumber_any b g p 4 er xs _ h (by omega) (by omega)).mono ?_; rintro e w' ⟨rfl, hr⟩; rw [← HV.out])
  go_ret
  rw [← HV.out]
  exact ⟨rfl, hr⟩

end Go.Proofs.YtjadpbkhfclldaaGreat
namespace Go.Proofs.YtjadpbkhfclldaaGreat
open Go.RowKit
set_option maxRecDepth 6000

section
variable {P : Program} {w : World}
theorem wpList_convert_run {ops : Array Oper} {rest : List Oper} {o : Oper} {a : Act} {Q : Exit → Act → World → Prop} (hgd : o.guard = none) (s : Operand) (t k : TypeId)
    (ho : o.op = .convert t k s) (vs v' : Value) (w' : World) (hs : a.eval s = vs)
    (hr : (convert t k vs).run P w = .ok v' w') (h : wpList P ops Q rest (a.put o.dst v') w') : wpList P ops Q (o :: rest) a w :=
  wpList_plain hgd fun _ hK => by
    unfold Oper.wp execOp
    simp only [ho, hs, Sem.run_bind, hr, Result.andThen_ok, Sem.run_pure]
    exact hK _ _ h

theorem foldl_push (xs : List UInt8) : ∀ s : ByteArray, (xs.map fun x => (x.toNat : Int)).foldl (fun r n => r.push (UInt8.ofNat n.toNat)) s = ⟨s.data ++ xs.toArray⟩ := by
  induction xs with
  | nil => intro s; simp
  | cons x r ih =>
    intro s
    simp only [List.map_cons, List.foldl_cons]
    rw [ih]
    have : UInt8.ofNat ((x.toNat : Int)).toNat = x := by simp
    rw [this]
    simp [ByteArray.push]

theorem run_text_of (src dst e : TypeId) (hs : P.underlying src = some (.slice e)) (he : P.underlying e = some (.int .u8)) (hd : P.underlying dst = some .string)
    (g o c : Nat) (l : List Value) (t : TypeId) (hg : Blk w g l t) (xs : List UInt8) (hx : xs = [] ∨ (l.drop o).take xs.length = bvs xs) :
    (convert src dst (.slice (some ⟨g, o, none⟩) xs.length c)).run P w = .ok (.string ⟨xs.toArray⟩) w := by
  rw [run_convert_bytes_string w src dst e _ _ _ hs he hd]
  have hb : bvs xs = (xs.map fun x => (x.toNat : Int)).map (Value.int .u8) := by simp [bvs]
  have hl := run_loadCells_list (P := P) w ⟨g, o, none⟩ (bvs xs) (by
    intro j v hj
    rcases hx with hx | hx
    · subst hx; simp [bvs] at hj
    · rw [← hx, List.getElem?_take] at hj
      split at hj
      · rw [List.getElem?_drop] at hj
        rw [addr_add]
        exact hg.cell hj
      · cases hj)
  rw [bvs_length, hb] at hl
  rw [run_bytesToString w _ _ _ _ hl, foldl_push]
  simp [ByteArray.empty, ByteArray.emptyWithCapacity]
  rfl
end

set_option maxHeartbeats 400000 in
theorem rText_fault (b g p : Nat) (er most : Int) (xs : List UInt8) (w : World) (h : Rd w b g xs p er) (he : (numE xs p er 4 != 0) = true) :
    Calls Tryz.prog 95 #[.pointer (some ⟨b, 0, none⟩), .int .i64 most] w fun e w' => e = .returned (.string ⟨#[]⟩) ∧ Rd w' b g xs (numP xs p er 4) (numE xs p er 4) ∧ Keeps (· = b) w w' := by
  have hlt := numV_lt xs p er 4
  go_enter Tryz.func95, Tryz.ntmps95
  go_wp2_with (first | (go_at_call 73; refine (rAt_any b g p er xs _ h).mono ?_; rintro e w' ⟨rfl, hw'⟩; obtain rfl := hw'.symm) | (go_at_call 75; refine (rU32_any b g p er xs _ h).mono ?_; rintro e w1 ⟨rfl, hr, hK⟩) | (go_at_call 88; refine (rFault_any b g _ _ xs _ hr).mono ?_; rintro e w' ⟨rfl, hw'⟩; obtain rfl := hw'.symm))
  go_ret
  exact ⟨rfl, hr, hK⟩

set_option maxHeartbeats 400000 in
theorem rText_most (b g p N : Nat) (most : Int) (xs : List UInt8) (w : World) (hRd : Rd w b g xs p 0) (hp : p + 4 ≤ xs.length) (hN : N = highN ((xs.drop p).take 4)) (hm : max most 0 < (N : Int)) :
    Calls Tryz.prog 95 #[.pointer (some ⟨b, 0, none⟩), .int .i64 most] w fun e w' => e = .returned (.string ⟨#[]⟩) ∧ Rd w' b g xs p 14 ∧ Keeps (· = b) w w' := by
  have h1 : ¬ xs.length < p + 4 := by omega
  have hV : numV xs p 0 4 = N := by simp [numV, h1, hN]
  have hP : numP xs p 0 4 = p + 4 := by simp [numP, h1]
  have hE : numE xs p 0 4 = 0 := by simp [numE, h1]
  have hlt := numV_lt xs p 0 4
  rw [hV] at hlt
  have hU := rU32_any b g p 0 xs w hRd
  rw [hV, hP, hE] at hU
  have HU : Hid (Calls _ _ _ _ _) := hU
  clear hU hV hP hE hN h1
  go_enter Tryz.func95, Tryz.ntmps95
  go_wp2_with (first | (go_at_call 73; refine (rAt_any b g p 0 xs _ hRd).mono ?_; rintro e w' ⟨rfl, hw'⟩; obtain rfl := hw'.symm) | (go_at_call 75; refine HU.out.mono ?_; rintro e w1 ⟨rfl, hr, hK⟩) | (go_at_call 88; refine (rFault_any b g _ _ xs _ hr).mono ?_; rintro e w' ⟨rfl, hw'⟩; obtain rfl := hw'.symm) | (go_at_call 102; refine Hid.out ?_))
  all_goals
    unfold Hid
    refine (refuse_any b p 14 ((p + 4 : Nat) : Int) _ _ (hr.blk.cell (i := 1) rfl) (hr.blk.cell (i := 2) rfl) (hr.blk.frozen 1) (hr.blk.frozen 2)).mono ?_
    rintro e w' ⟨rfl, hw'⟩
    have hR := hr.set p 14 hRd.le
    have hK2 := ((hK.setCell ⟨b, 1, none⟩ (.int .i64 p) fun _ => rfl).setCell ⟨b, 2, none⟩ (.int .i64 14) fun _ => rfl)
    rw [← hw'] at hR hK2
    have HR : Hid (Rd _ _ _ _ _ _) := hR
    have HK : Hid (Keeps _ _ _) := hK2
    clear hw' hR hK2
    go_wp2
    go_ret
    exact ⟨rfl, HR.out, HK.out⟩

set_option maxHeartbeats 400000 in
theorem rText_short (b g p N : Nat) (most : Int) (xs : List UInt8) (w : World) (hRd : Rd w b g xs p 0) (hp : p + 4 ≤ xs.length) (hN : N = highN ((xs.drop p).take 4)) (hm : ¬ max most 0 < (N : Int)) (hs : xs.length < p + 4 + N) :
    Calls Tryz.prog 95 #[.pointer (some ⟨b, 0, none⟩), .int .i64 most] w fun e w' => e = .returned (.string ⟨#[]⟩) ∧ Rd w' b g xs p 12 ∧ Keeps (· = b) w w' := by
  have h1 : ¬ xs.length < p + 4 := by omega
  have hV : numV xs p 0 4 = N := by simp [numV, h1, hN]
  have hP : numP xs p 0 4 = p + 4 := by simp [numP, h1]
  have hE : numE xs p 0 4 = 0 := by simp [numE, h1]
  have hlt := numV_lt xs p 0 4
  rw [hV] at hlt
  have hU := rU32_any b g p 0 xs w hRd
  rw [hV, hP, hE] at hU
  have HU : Hid (Calls _ _ _ _ _) := hU
  have hlm := hRd.len
  unfold maxLen at hlm
  have hgt : (xs.length : Int) - ((p + 4 : Nat) : Int) < (N : Int) := by omega
  clear hU hV hP hE hN h1
  go_enter Tryz.func95, Tryz.ntmps95
  go_wp2_with (first | (go_at_call 73; refine (rAt_any b g p 0 xs _ hRd).mono ?_; rintro e w' ⟨rfl, hw'⟩; obtain rfl := hw'.symm) | (go_at_call 75; refine HU.out.mono ?_; rintro e w1 ⟨rfl, hr, hK⟩) | (go_at_call 88; refine (rFault_any b g _ _ xs _ hr).mono ?_; rintro e w' ⟨rfl, hw'⟩; obtain rfl := hw'.symm) | (go_at_call 100; refine (left_any b _ xs.length _ (p + 4) _ (hr.blk.cell (i := 0) rfl) (hr.blk.cell (i := 1) rfl) hRd.len hp).mono ?_; rintro e w' ⟨rfl, hw'⟩; obtain rfl := hw'.symm) | (go_at_call 102; refine Hid.out ?_))
  all_goals
    unfold Hid
    refine (refuse_any b p 12 ((p + 4 : Nat) : Int) _ _ (hr.blk.cell (i := 1) rfl) (hr.blk.cell (i := 2) rfl) (hr.blk.frozen 1) (hr.blk.frozen 2)).mono ?_
    rintro e w' ⟨rfl, hw'⟩
    have hR := hr.set p 12 hRd.le
    have hK2 := ((hK.setCell ⟨b, 1, none⟩ (.int .i64 p) fun _ => rfl).setCell ⟨b, 2, none⟩ (.int .i64 12) fun _ => rfl)
    rw [← hw'] at hR hK2
    have HR : Hid (Rd _ _ _ _ _ _) := hR
    have HK : Hid (Keeps _ _ _) := hK2
    clear hw' hR hK2
    go_wp2
    go_ret
    exact ⟨rfl, HR.out, HK.out⟩

set_option maxHeartbeats 400000 in
theorem rText_ok (b g p N : Nat) (most : Int) (xs : List UInt8) (w : World) (hRd : Rd w b g xs p 0) (hp : p + 4 + N ≤ xs.length) (hN : N = highN ((xs.drop p).take 4)) (hm : ¬ max most 0 < (N : Int)) :
    Calls Tryz.prog 95 #[.pointer (some ⟨b, 0, none⟩), .int .i64 most] w fun e w' => e = .returned (.string ⟨((xs.drop (p + 4)).take N).toArray⟩) ∧ Rd w' b g xs (p + 4 + N) 0 ∧ Keeps (· = b) w w' := by
  have h1 : ¬ xs.length < p + 4 := by omega
  have hV : numV xs p 0 4 = N := by simp [numV, h1, hN]
  have hP : numP xs p 0 4 = p + 4 := by simp [numP, h1]
  have hE : numE xs p 0 4 = 0 := by simp [numE, h1]
  have hlt := numV_lt xs p 0 4
  rw [hV] at hlt
  have hU := rU32_any b g p 0 xs w hRd
  rw [hV, hP, hE] at hU
  have HU : Hid (Calls _ _ _ _ _) := hU
  have hlm := hRd.len
  unfold maxLen at hlm
  have hgt : ¬ (xs.length : Int) - ((p + 4 : Nat) : Int) < (N : Int) := by omega
  clear hU hV hP hE hN h1
  go_enter Tryz.func95, Tryz.ntmps95
  go_wp2_with (first | (go_at_call 73; refine (rAt_any b g p 0 xs _ hRd).mono ?_; rintro e w' ⟨rfl, hw'⟩; obtain rfl := hw'.symm) | (go_at_call 75; refine HU.out.mono ?_; rintro e w1 ⟨rfl, hr, hK⟩) | (go_at_call 88; refine (rFault_any b g _ _ xs _ hr).mono ?_; rintro e w' ⟨rfl, hw'⟩; obtain rfl := hw'.symm) | (go_at_call 100; refine (left_any b _ xs.length _ (p + 4) _ (hr.blk.cell (i := 0) rfl) (hr.blk.cell (i := 1) rfl) hRd.len (by omega)).mono ?_; rintro e w' ⟨rfl, hw'⟩; obtain rfl := hw'.symm) | (go_at_call 71; refine Hid.out ?_))
  all_goals
    unfold Hid
    refine (next_any b g 0 xs.length xs.length (p + 4) N _ (hr.blk.cell (i := 0) rfl) (hr.blk.cell (i := 1) rfl) (hr.blk.frozen 1) hp (Nat.le_refl _) hRd.len).mono ?_
    rintro e w' ⟨⟨x, rfl, hx⟩, j, hw'⟩
    have hR := hr.go (p + 4 + N) hp
    have hK2 := hK.setCell ⟨b, 1, none⟩ (.int .i64 ((p + 4 + N : Nat) : Int)) fun _ => rfl
    have hR' : Rd w' b g xs (p + 4 + N) 0 := by rw [hw']; exact ⟨hR.ne, hR.blk, hR.bytes, hR.len, hR.le⟩
    have hK' : Keeps (· = b) w w' := by rw [hw']; exact hK2.drewN j
    have hlen : ((xs.drop (p + 4)).take N).length = N := by rw [List.length_take, List.length_drop]; omega
    have hcv := run_text_of (P := Tryz.prog) (w := w') 28 9 5 Tryz.underlying28 Tryz.underlying5 Tryz.underlying9 g x (xs.length - (p + 4)) (bvs xs) 5 hR'.bytes ((xs.drop (p + 4)).take N) (by
      rcases hx with hx | hx
      · right; rw [hlen, hx, Nat.zero_add, bvs_take, bvs_drop]
      · left; exact List.eq_nil_of_length_eq_zero (by omega))
    rw [hlen] at hcv
    have HC : Hid (_ = _) := hcv
    have HR : Hid (Rd _ _ _ _ _ _) := hR'
    have HK : Hid (Keeps _ _ _) := hK'
    clear hw' hR hK2 hR' hK' hlen hcv hr hK
    go_wp2_with (refine wpList_convert_run rfl (.tmp 35) 28 9 rfl (.slice (some ⟨g, x, none⟩) N (xs.length - (p + 4))) _ w' rfl HC.out ?_)
    go_ret
    exact ⟨rfl, HR.out, HK.out⟩

/-- What Text answers, and where it leaves the reader. -/
def txtN (xs : List UInt8) (p : Nat) : Nat := highN ((xs.drop p).take 4)
def txtE (xs : List UInt8) (p : Nat) (er most : Int) : Int :=
  if er ≠ 0 then er else if xs.length < p + 4 then 12 else if max most 0 < (txtN xs p : Int) then 14 else if xs.length < p + 4 + txtN xs p then 12 else 0
def txtOk (xs : List UInt8) (p : Nat) (er most : Int) : Prop := er = 0 ∧ p + 4 ≤ xs.length ∧ ¬ max most 0 < (txtN xs p : Int) ∧ p + 4 + txtN xs p ≤ xs.length
def txtV (xs : List UInt8) (p : Nat) (er most : Int) : List UInt8 := if txtE xs p er most = 0 then (xs.drop (p + 4)).take (txtN xs p) else []
def txtP (xs : List UInt8) (p : Nat) (er most : Int) : Nat := if txtE xs p er most = 0 then p + 4 + txtN xs p else p

theorem rText_any (b g p : Nat) (er most : Int) (xs : List UInt8) (w : World) (hRd : Rd w b g xs p er) :
    Calls Tryz.prog 95 #[.pointer (some ⟨b, 0, none⟩), .int .i64 most] w fun e w' => e = .returned (.string ⟨(txtV xs p er most).toArray⟩) ∧ Rd w' b g xs (txtP xs p er most) (txtE xs p er most) ∧ Keeps (· = b) w w' := by
  by_cases he : er ≠ 0
  · have e1 : txtE xs p er most = er := by unfold txtE; rw [if_pos he]
    have e2 : txtV xs p er most = [] := by unfold txtV; rw [e1, if_neg he]
    have e3 : txtP xs p er most = p := by unfold txtP; rw [e1, if_neg he]
    have n1 : numE xs p er 4 = er := by unfold numE; rw [if_pos he]
    have n2 : numP xs p er 4 = p := by unfold numP; rw [if_pos he]
    have := rText_fault b g p er most xs w hRd (by rw [n1]; simpa using he)
    rw [n1, n2] at this
    rw [e1, e2, e3]
    exact this
  · obtain rfl : er = 0 := by omega
    by_cases h4 : xs.length < p + 4
    · have e1 : txtE xs p 0 most = 12 := by unfold txtE; rw [if_neg he, if_pos h4]
      have e2 : txtV xs p 0 most = [] := by unfold txtV; rw [e1, if_neg (by decide)]
      have e3 : txtP xs p 0 most = p := by unfold txtP; rw [e1, if_neg (by decide)]
      have n1 : numE xs p 0 4 = 12 := by unfold numE; rw [if_neg he, if_pos h4]
      have n2 : numP xs p 0 4 = p := by unfold numP; rw [if_neg he, if_pos h4]
      have := rText_fault b g p 0 most xs w hRd (by rw [n1]; decide)
      rw [n1, n2] at this
      rw [e1, e2, e3]
      exact this
    · by_cases hm : max most 0 < (txtN xs p : Int)
      · have e1 : txtE xs p 0 most = 14 := by unfold txtE; rw [if_neg he, if_neg h4, if_pos hm]
        have e2 : txtV xs p 0 most = [] := by unfold txtV; rw [e1, if_neg (by decide)]
        have e3 : txtP xs p 0 most = p := by unfold txtP; rw [e1, if_neg (by decide)]
        rw [e1, e2, e3]
        exact rText_most b g p (txtN xs p) most xs w hRd (by omega) rfl hm
      · by_cases hs : xs.length < p + 4 + txtN xs p
        · have e1 : txtE xs p 0 most = 12 := by unfold txtE; rw [if_neg he, if_neg h4, if_neg hm, if_pos hs]
          have e2 : txtV xs p 0 most = [] := by unfold txtV; rw [e1, if_neg (by decide)]
          have e3 : txtP xs p 0 most = p := by unfold txtP; rw [e1, if_neg (by decide)]
          rw [e1, e2, e3]
          exact rText_short b g p (txtN xs p) most xs w hRd (by omega) rfl hm hs
        · have e1 : txtE xs p 0 most = 0 := by unfold txtE; rw [if_neg he, if_neg h4, if_neg hm, if_neg hs]
          have e2 : txtV xs p 0 most = (xs.drop (p + 4)).take (txtN xs p) := by unfold txtV; rw [e1, if_pos rfl]
          have e3 : txtP xs p 0 most = p + 4 + txtN xs p := by unfold txtP; rw [e1, if_pos rfl]
          rw [e1, e2, e3]
          exact rText_ok b g p (txtN xs p) most xs w hRd (by omega) rfl hm

def endE (xs : List UInt8) (p : Nat) (er : Int) : Int := if er ≠ 0 then er else if p < xs.length then 13 else 0
end Go.Proofs.YtjadpbkhfclldaaGreat
