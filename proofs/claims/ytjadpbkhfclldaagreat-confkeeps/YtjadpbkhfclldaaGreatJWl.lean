import Derived.Test.YtjadpbkhfclldaaGreatJRb
namespace Go.Proofs.YtjadpbkhfclldaaGreat
open Go.RowKit
set_option linter.unusedVariables false
set_option maxRecDepth 6000

/-- The writer of package conf, in block a, over the bits' one in block b. -/
structure Wt (w : World) (a b : Nat) (g : Option Nat) (xs : List UInt8) (d : Bool) : Prop where
  blk : Blk w a [.pointer (some ⟨b, 0, none⟩), .bool d] 63
  wr : Wr w b g xs
  ne : a ≠ b
  ng : ∀ k, g = some k → k ≠ a

def Own (a b : Nat) (g : Option Nat) (k : Nat) : Prop := k = a ∨ k = b ∨ some k = g
def Put (w : World) (a b : Nat) (g : Option Nat) (xs : List UInt8) (w' : World) (ys : List UInt8) (d' : Bool) : Prop :=
  ∃ g', Wt w' a b g' (xs ++ ys) d' ∧ (g' = g ∨ ∃ k, g' = some k ∧ w.heap.size ≤ k) ∧ Keeps (Own a b g) w w'

theorem Wr.b_lt {w : World} {b : Nat} {g : Option Nat} {xs : List UInt8} (h : Wr w b g xs) : b < w.heap.size := by
  cases g with
  | none => exact h.2.lt
  | some g => obtain ⟨_, _, hb, _⟩ := h; exact hb.lt
theorem Wr.g_lt {w : World} {b k : Nat} {xs : List UInt8} (h : Wr w b (some k) xs) : k < w.heap.size := by
  obtain ⟨_, _, _, hb, _⟩ := h; exact hb.lt
theorem Wr.kept {S : Nat → Prop} {w w' : World} {b : Nat} {g : Option Nat} {xs : List UInt8} (h : Wr w b g xs) (hK : Keeps S w w') (hb : ¬ S b) (hg : ∀ k, g = some k → ¬ S k) : Wr w' b g xs := by
  cases g with
  | none => exact ⟨h.1, h.2.kept hK hb⟩
  | some g => obtain ⟨r, h1, h2, h3, h4⟩ := h; exact ⟨r, h1, h2.kept hK hb, h3.kept hK (hg g rfl), h4⟩
theorem Wt.kept {S : Nat → Prop} {w w' : World} {a b : Nat} {g : Option Nat} {xs : List UInt8} {d : Bool} (h : Wt w a b g xs d) (hK : Keeps S w w') (hS : ∀ k, Own a b g k → ¬ S k) : Wt w' a b g xs d :=
  ⟨h.blk.kept hK (hS _ (.inl rfl)), h.wr.kept hK (hS _ (.inr (.inl rfl))) fun k hk => hS k (.inr (.inr hk.symm)), h.ne, h.ng⟩
theorem Wt.lt {w : World} {a b : Nat} {g : Option Nat} {xs : List UInt8} {d : Bool} (h : Wt w a b g xs d) (k : Nat) (hk : Own a b g k) : k < w.heap.size := by
  rcases hk with rfl | rfl | hk
  · exact h.blk.lt
  · exact h.wr.b_lt
  · subst hk; exact h.wr.g_lt
theorem Put.refl {w w' : World} {a b : Nat} {g : Option Nat} {xs : List UInt8} {d : Bool} (h : Wt w a b g xs d) (hK : Keeps (fun _ => False) w w') : Put w a b g xs w' [] d :=
  ⟨g, by rw [List.append_nil]; exact h.kept hK fun _ _ e => e, .inl rfl, hK.mono fun _ _ e => e.elim⟩
theorem own_back {w : World} {a b : Nat} {g g' : Option Nat} (hg : g' = g ∨ ∃ k, g' = some k ∧ w.heap.size ≤ k) {k : Nat} (hk : k < w.heap.size) (h : Own a b g' k) : Own a b g k := by
  rcases h with h | h | h
  · exact .inl h
  · exact .inr (.inl h)
  · rcases hg with rfl | ⟨m, rfl, hm⟩
    · exact .inr (.inr h)
    · cases h; omega
theorem Put.trans {w w1 w2 : World} {a b : Nat} {g : Option Nat} {xs ys zs : List UInt8} {d2 : Bool} {g1 : Option Nat} (hg : g1 = g ∨ ∃ k, g1 = some k ∧ w.heap.size ≤ k) (hK : Keeps (Own a b g) w w1)
    (h : Put w1 a b g1 (xs ++ ys) w2 zs d2) : Put w a b g xs w2 (ys ++ zs) d2 := by
  obtain ⟨g2, h1, h2, h3⟩ := h
  refine ⟨g2, by rw [← List.append_assoc]; exact h1, ?_, hK.trans h3 fun k hk ho => own_back hg hk ho⟩
  rcases h2 with rfl | ⟨m, rfl, hm⟩
  · exact hg
  · exact .inr ⟨m, rfl, Nat.le_trans hK.size hm⟩
theorem Put.cong {w w' : World} {a b : Nat} {g : Option Nat} {xs ys ys' : List UInt8} {d d' : Bool} (h : Put w a b g xs w' ys d) (e : ys = ys') (f : d = d') : Put w a b g xs w' ys' d' := by rw [← e, ← f]; exact h
/-- What the bits' writer did. -/
theorem Put.of_bits {w w' : World} {a b g' : Nat} {g : Option Nat} {xs ys : List UInt8} {d : Bool} (h : Wt w a b g xs d) (hW : Wr w' b (some g') (xs ++ ys)) (hg : g = some g' ∨ w.heap.size ≤ g') (hK : Keeps (fun k => k = b ∨ some k = g) w w') : Put w a b g xs w' ys d := by
  refine ⟨some g', ⟨h.blk.kept hK ?_, hW, h.ne, ?_⟩, ?_, hK.mono fun k _ hk => hk.elim (fun e => .inr (.inl e)) fun e => .inr (.inr e)⟩
  · rintro (e | e)
    · exact h.ne e
    · exact h.ng a e.symm rfl
  · rintro k hk
    cases hk
    rcases hg with e | e
    · exact h.ng _ e
    · intro e'; have := h.blk.lt; omega
  · rcases hg with e | e
    · exact .inl e.symm
    · exact .inr ⟨_, rfl, e⟩
/-- wide is set. -/
theorem Wt.wide {w : World} {a b : Nat} {g : Option Nat} {xs : List UInt8} {d : Bool} (h : Wt w a b g xs d) : Wt (w.setCell ⟨a, 1, none⟩ (.bool true)) a b g xs true := by
  have hK : Keeps (· = a) w (w.setCell ⟨a, 1, none⟩ (.bool true)) := (Keeps.refl _ w).setCell _ _ fun _ => rfl
  refine ⟨?_, h.wr.kept hK (fun e => h.ne e.symm) h.ng, h.ne, h.ng⟩
  have := h.blk.setCell 1 (.bool true)
  exact this
theorem Keeps.wide {w : World} {a b : Nat} {g : Option Nat} : Keeps (Own a b g) w (w.setCell ⟨a, 1, none⟩ (.bool true)) := (Keeps.refl _ w).setCell _ _ fun _ => .inl rfl

set_option maxHeartbeats 400000 in
theorem confWriter_any (w : World) : Calls Tryz.prog 16 #[] w fun e w' => ∃ a b, e = .returned (.pointer (some ⟨a, 0, none⟩)) ∧ Wt w' a b none [] false ∧ w.heap.size ≤ a ∧ w.heap.size ≤ b ∧ Keeps (fun _ => False) w w' := by
  go_enter Tryz.func16, Tryz.ntmps16
  go_wp2_with fail
  refine (newWriter_any w).mono ?_
  rintro e w1 ⟨rfl, rfl⟩
  go_wp2
  go_ret
  refine ⟨_, _, rfl, ⟨?_, ⟨rfl, (Blk.new w _ _).alloc _⟩, by omega, by rintro k hk; cases hk⟩, by omega, Nat.le_refl _, ((Keeps.refl _ w).alloc _).alloc _⟩
  have := Blk.new (w.alloc (.cells #[.slice none 0 0, .int .i64 0] 95)) #[.pointer (some ⟨w.heap.size, 0, none⟩), .bool false] 63
  simpa using this

def ivs (ns : List Int) : List Value := ns.map fun n => .int .i64 n

theorem wrap_u32_nat (n : Int) : IntKind.u32.wrap n = (((n % 4294967296).toNat : Nat) : Int) := by rw [IntKind.wrap_u32']; omega

theorem put_number {w : World} {a b : Nat} {g : Option Nat} {xs : List UInt8} {d : Bool} (n : Int) (h : Wt w a b g xs d) (hx : xs.length + 4 ≤ 140737488355328) :
    Calls Tryz.prog 17 #[.pointer (some ⟨b, 0, none⟩), .int .u32 (IntKind.u32.wrap n)] w fun e w' => e = .returned (.tuple #[]) ∧ Put w a b g xs w' (nb n) d := by
  rw [wrap_u32_nat]
  refine (wU32_any b _ g xs w h.wr hx (by omega)).mono ?_
  rintro e w1 ⟨rfl, g', hW, hg, hK⟩
  exact ⟨rfl, Put.of_bits h hW hg hK⟩

theorem take_get {α : Type} (f : α → List UInt8) (ns : List α) (j : Nat) (n : α) (h : ns[j]? = some n) : (ns.take (j + 1)).flatMap f = (ns.take j).flatMap f ++ f n := by
  rw [List.take_add_one, h, List.flatMap_append]; simp
theorem take_any {α : Type} (f : α → Bool) (ns : List α) (j : Nat) (n : α) (h : ns[j]? = some n) : (ns.take (j + 1)).any f = ((ns.take j).any f || f n) := by
  rw [List.take_add_one, h, List.any_append]; simp

set_option maxHeartbeats 1000000 in
theorem numbers_any (a b gl : Nat) (g : Option Nat) (xs : List UInt8) (d : Bool) (ns : List Int) (t : TypeId) (w : World) (h : Wt w a b g xs d) (hB : Blk w gl (ivs ns) t) (hd : ¬ Own a b g gl)
    (hn : ∀ n ∈ ns, I64 n) (hl : ns.length ≤ 8) (hx : xs.length + 32 ≤ 140737488355328) :
    Calls Tryz.prog 39 #[.pointer (some ⟨a, 0, none⟩), .slice (some ⟨gl, 0, none⟩) ns.length ns.length] w fun e w' => e = .returned (.tuple #[]) ∧ Put w a b g xs w' (nbs ns) (d || wNs ns) := by
  obtain ⟨L, hL⟩ : ∃ L, L = ns.length := ⟨_, rfl⟩
  have HS : Hid (Wt w a b g xs d ∧ Blk w gl (ivs ns) t ∧ ¬ Own a b g gl ∧ (∀ n ∈ ns, I64 n) ∧ L = ns.length ∧ xs.length + 32 ≤ 140737488355328) := ⟨h, hB, hd, hn, hL, hx⟩
  rw [← hL] at hl ⊢
  clear h hB hd hn hL hx
  go_enter Tryz.func39, Tryz.ntmps39
  go_wp2
  go_loopw [8] (fun i wr => ∃ j : Nat, j ≤ L ∧ i = .int .i64 j ∧ Put w a b g xs wr (nbs (ns.take j)) (d || wNs (ns.take j))) (fun i _ => L - (intOf i).toNat)
  case atStart => exact ⟨0, by omega, rfl, (Put.refl HS.out.1 (Keeps.refl _ _)).cong (by simp [nbs]) (by simp [wNs])⟩
  case round =>
    obtain ⟨j, hj, rfl, g1, hw1, hg1, hK1⟩ := hrel
    by_cases hlt : j < L
    · obtain ⟨n, hy⟩ : ∃ n, ns[j]? = some n := ⟨_, List.getElem?_eq_getElem (by have := HS.out.2.2.2.2.1; omega)⟩
      have y0 : wr.cell? ⟨gl, j, none⟩ = some (.int .i64 n) := (HS.out.2.1.kept hK1 HS.out.2.2.1).cell (by simp [ivs, hy])
      have p0 := hw1.blk.cell (i := 0) rfl
      have p1 := hw1.blk.frozen 1
      have p3 := hw1.blk.cell (i := 1) rfl
      have HL : Hid (xs.length + (nbs (ns.take j)).length + 4 ≤ 140737488355328) := by
        rw [nbs_length]
        show xs.length + 4 * (ns.take j).length + 4 ≤ 140737488355328
        have := HS.out.2.2.2.2.2
        have : (ns.take j).length ≤ j := List.length_take_le _ _
        omega
      have HJ : Hid (ns[j]? = some n ∧ Wt wr a b g1 (xs ++ nbs (ns.take j)) (d || wNs (ns.take j)) ∧ (g1 = g ∨ ∃ k, g1 = some k ∧ w.heap.size ≤ k) ∧ Keeps (Own a b g) w wr) := ⟨hy, hw1, hg1, hK1⟩
      clear hy hw1 hg1 hK1
      have hi := HS.out.2.2.2.1 n (List.mem_of_getElem? HJ.out.1)
      cases hq : wN n
      · have hq1 : ¬ n < 0 := by intro e; simp [wN, e] at hq
        have hq2 : ¬ 4294967295 < n := by intro e; simp [wN, e] at hq
        clear hi
        have HQ : Hid (wN n = false) := hq
        clear hq
        go_wp2_with fail
        have hwr : IntKind.u32.wrap n = n := by rw [IntKind.wrap_u32']; omega
        have HN := put_number n HJ.out.2.1 (by rw [List.length_append]; have := HL.out; omega)
        rw [hwr] at HN
        refine HN.mono ?_
        clear hwr
        rintro e w2 ⟨rfl, hP⟩
        have HP : Hid (Put w a b g xs w2 (nbs (ns.take (j + 1))) (d || wNs (ns.take (j + 1)))) := by
          refine (Put.trans HJ.out.2.2.1 HJ.out.2.2.2 hP).cong ?_ ?_
          · exact (take_get nb ns j n HJ.out.1).symm
          · unfold wNs; rw [take_any wN ns j n HJ.out.1, HQ.out]; simp
        clear hP y0 p0 p1 p3 HJ HL
        go_wp2
        go_roundw
        case rel => exact ⟨j + 1, by omega, by go_num, HP.out⟩
        case measure => simp [intOf]; omega
      · have HQ : Hid (wN n = true) := hq
        have HW : Hid (Wt (wr.setCell ⟨a, 1, none⟩ (.bool true)) a b g1 (xs ++ nbs (ns.take j)) true ∧ Keeps (Own a b g) w (wr.setCell ⟨a, 1, none⟩ (.bool true))) :=
          ⟨HJ.out.2.1.wide, HJ.out.2.2.2.trans Keeps.wide fun k hk ho => own_back HJ.out.2.2.1 hk ho⟩
        have p2 : (wr.setCell ⟨a, 1, none⟩ (.bool true)).cell? ⟨a, 0, none⟩ = some (.pointer (some ⟨b, 0, none⟩)) := HW.out.1.blk.cell (i := 0) rfl
        have hq3 : n < 0 ∨ 4294967295 < n := by
          unfold wN at hq; simp at hq; exact hq
        clear hq hi p0
        have HN : Hid (Calls _ _ _ _ _) := put_number n HW.out.1 (by rw [List.length_append]; have := HL.out; omega)
        have HG : Hid (g1 = g ∨ ∃ k, g1 = some k ∧ w.heap.size ≤ k) := HJ.out.2.2.1
        have HY : Hid (ns[j]? = some n) := HJ.out.1
        have HF : ∀ w2, Put (wr.setCell ⟨a, 1, none⟩ (.bool true)) a b g1 (xs ++ nbs (ns.take j)) w2 (nb n) true → Hid (Put w a b g xs w2 (nbs (ns.take (j + 1))) (d || wNs (ns.take (j + 1)))) := by
          intro w2 hP
          refine (Put.trans HG.out HW.out.2 hP).cong ?_ ?_
          · exact (take_get nb ns j n HY.out).symm
          · unfold wNs; rw [take_any wN ns j n HY.out, HQ.out]; simp
        have HF : Hid (∀ w2, _ → Hid (Put w a b g xs w2 (nbs (ns.take (j + 1))) (d || wNs (ns.take (j + 1))))) := HF
        clear HJ HL HY HG
        obtain ⟨N, hN⟩ : ∃ N, IntKind.u32.wrap n = N := ⟨_, rfl⟩
        rw [hN] at HN
        rcases hq3 with hq1 | hq2
        · go_wp2_with fail
          refine HN.out.mono ?_
          rintro e w2 ⟨rfl, hP⟩
          have HP := HF.out w2 hP
          clear hP y0 p1 p2 p3 HW HN HF
          go_wp2
          go_roundw
          case rel => exact ⟨j + 1, by omega, by go_num, HP.out⟩
          case measure => simp [intOf]; omega
        · have hq1 : ¬ n < 0 := by omega
          go_wp2_with fail
          refine HN.out.mono ?_
          rintro e w2 ⟨rfl, hP⟩
          have HP := HF.out w2 hP
          clear hP y0 p1 p2 p3 HW HN HF
          go_wp2
          go_roundw
          case rel => exact ⟨j + 1, by omega, by go_num, HP.out⟩
          case measure => simp [intOf]; omega
    · obtain rfl : j = L := by omega
      have HP : Hid (Put w a b g xs wr (nbs ns) (d || wNs ns)) := by
        have : ns.take j = ns := List.take_of_length_le (by have := HS.out.2.2.2.2.1; omega)
        rw [this] at hw1
        exact ⟨g1, hw1, hg1, hK1⟩
      clear hw1 hg1 hK1
      go_wp2
      go_end0
      exact ⟨rfl, HP.out⟩
end Go.Proofs.YtjadpbkhfclldaaGreat
namespace Go.Proofs.YtjadpbkhfclldaaGreat
open Go.RowKit
set_option linter.unusedVariables false
set_option maxRecDepth 6000

theorem put_u8 {w : World} {a b : Nat} {g : Option Nat} {xs : List UInt8} {d : Bool} (n : Nat) (h : Wt w a b g xs d) (hx : xs.length + 1 ≤ 140737488355328) (hn : n < 256) :
    Calls Tryz.prog 55 #[.pointer (some ⟨b, 0, none⟩), .int .u8 n] w fun e w' => e = .returned (.tuple #[]) ∧ Put w a b g xs w' (lowB 1 n) d := by
  refine (wU8_any b n g xs w h.wr hx hn).mono ?_
  rintro e w1 ⟨rfl, g', hW, hg, hK⟩
  exact ⟨rfl, Put.of_bits h hW hg hK⟩

theorem own_newW {w w1 : World} {a b : Nat} {g : Option Nat} {xs : List UInt8} {d : Bool} (h : Wt w a b g xs d) {k : Nat} (hk : w.heap.size ≤ k) : ¬ Own a b g k := fun ho => by
  have := h.lt k ho; omega
/-- Behind what only grew. -/
theorem Put.grown {w w1 w2 : World} {a b : Nat} {g : Option Nat} {xs ys : List UInt8} {d : Bool} (hK : Keeps (fun _ => False) w w1) (h : Put w1 a b g xs w2 ys d) : Put w a b g xs w2 ys d := by
  obtain ⟨g', h1, h2, h3⟩ := h
  refine ⟨g', h1, ?_, (hK.mono fun _ _ e => e.elim).trans h3 fun _ _ e => e⟩
  rcases h2 with h2 | ⟨k, h2, h4⟩
  · exact .inl h2
  · exact .inr ⟨k, h2, Nat.le_trans hK.size h4⟩

set_option maxHeartbeats 400000 in
theorem name_any (a b : Nat) (g : Option Nat) (xs : List UInt8) (d : Bool) (s : ByteArray) (w : World) (h : Wt w a b g xs d) (hx : xs.length + 300 ≤ 140737488355328) (hs : s.size ≤ 9223372036854775807) :
    Calls Tryz.prog 58 #[.pointer (some ⟨a, 0, none⟩), .string s] w fun e w' => e = .returned (.tuple #[]) ∧ Put w a b g xs w' (nameBy s) (d || nameW s) := by
  have p0 := h.blk.cell (i := 0) rfl
  have p1 := h.blk.frozen 1
  have p3 := h.blk.cell (i := 1) rfl
  have HH : Hid (Wt w a b g xs d) := h
  by_cases hl : 255 < s.size
  · have hl' : (255 : Int) < s.size := by omega
    clear h
    go_enter Tryz.func58, Tryz.ntmps58
    go_wp2
    refine bodyPost_ret (results_none rfl _ _ _) rfl ?_
    refine ⟨rfl, g, ?_, .inl rfl, Keeps.wide⟩
    simp only [nameBy, nameW, hl, if_true, List.append_nil, decide_true, Bool.or_true]
    exact HH.out.wide
  · have hl' : ¬ (255 : Int) < s.size := by omega
    clear h
    go_enter Tryz.func58, Tryz.ntmps58
    go_wp2_with fail
    refine (wText_any b s g xs w HH.out.wr (by omega) (by omega)).mono ?_
    rintro e w1 ⟨rfl, g', hW, hg, hK⟩
    have HP : Hid (Put w a b g xs w1 (nameBy s) (d || nameW s)) := by
      refine (Put.of_bits HH.out hW hg hK).cong ?_ ?_
      · simp [nameBy, hl]
      · simp [nameW, hl]
    clear hW hg hK p0 p1 p3
    go_wp2
    go_end0
    exact ⟨rfl, HP.out⟩

theorem numbers_at {w w1 : World} {a b : Nat} (N : Nat) {g : Option Nat} {xs : List UInt8} {d : Bool} (ns : List Int) (h : Wt w a b g xs d) (hK : Keeps (fun _ => False) w w1) (hN : N = w1.heap.size) (hn : ∀ n ∈ ns, I64 n) (hl : ns.length ≤ 8) (hx : xs.length + 32 ≤ 140737488355328) :
    Calls Tryz.prog 39 #[.pointer (some ⟨a, 0, none⟩),   .slice (some ⟨N, 0, none⟩) ns.length ns.length] (w1.alloc (.cells (ivs ns).toArray 3)) fun e w' => e = .returned (.tuple #[]) ∧ Put w a b g xs w' (nbs ns) (d || wNs ns) := by
  subst hN
  have hK1 : Keeps (fun _ => False) w (w1.alloc (.cells (ivs ns).toArray 3)) := hK.alloc _
  have hB := Blk.new w1 (ivs ns).toArray 3
  refine (numbers_any a b w1.heap.size g xs d ns 3 _ (h.kept hK1 fun _ _ e => e) hB (own_newW (w1 := w) h hK.size) hn hl hx).mono ?_
  rintro e w2 ⟨rfl, hP⟩
  exact ⟨rfl, hP.grown hK1⟩

set_option maxHeartbeats 400000 in
theorem window_any (a b : Nat) (g : Option Nat) (xs : List UInt8) (d : Bool) (x : Win) (w : World) (h : Wt w a b g xs d) (hx : xs.length + 300 ≤ 140737488355328) (hf : x.Fine) :
    Calls Tryz.prog 57 #[.pointer (some ⟨a, 0, none⟩), x.v] w fun e w' => e = .returned (.tuple #[]) ∧ Put w a b g xs w' x.e (d || x.d) := by
  obtain ⟨p, u, s⟩ := x
  have HH : Hid (Wt w a b g xs d ∧ _) := ⟨h, hf⟩
  obtain ⟨q, hq⟩ : ∃ q, IntKind.i64.wrap (p + 1) = q := ⟨_, rfl⟩
  have HQ : Hid (IntKind.i64.wrap (p + 1) = q) := hq
  have HN : Hid (∀ m ∈ ([q, u, s] : List Int), I64 m) := by
    intro m hn
    have := HH.out.2
    unfold Win.Fine at this
    simp only at this
    rw [List.mem_cons, List.mem_cons, List.mem_singleton] at hn
    have hw : IntKind.i64.wrap (p + 1) = q := HQ.out
    rw [IntKind.wrap_i64] at hw
    unfold I64 at *
    rcases hn with rfl | rfl | rfl <;> omega
  clear h hf
  go_enter Tryz.func57, Tryz.ntmps57
  go_wp2_with fail
  refine (numbers_at (w1 := w.alloc _) (w.heap.size + 1) [q, u, s] HH.out.1 ((Keeps.refl _ w).alloc _) (by simp) HN.out (by simp) (by omega)).mono ?_
  rintro e w1 ⟨rfl, hP⟩
  have HP : Hid (Put w a b g xs w1 _ _) := hP
  clear hP HN
  go_wp2
  go_end0
  have e1 : ({ p := p, u := u, s := s } : Win).ns = [q, u, s] := by unfold Win.ns inc; rw [HQ.out]
  unfold Win.e Win.d
  rw [e1]
  exact ⟨rfl, HP.out⟩

set_option maxHeartbeats 400000 in
theorem region_any (a b : Nat) (g : Option Nat) (xs : List UInt8) (d : Bool) (x : Rgn) (w : World) (h : Wt w a b g xs d) (hx : xs.length + 300 ≤ 140737488355328) (hf : x.Fine) :
    Calls Tryz.prog 60 #[.pointer (some ⟨a, 0, none⟩), x.v] w fun e w' => e = .returned (.tuple #[]) ∧ Put w a b g xs w' x.e (d || x.d) := by
  obtain ⟨p, n, f, t⟩ := x
  have HH : Hid (Wt w a b g xs d ∧ _) := ⟨h, hf⟩
  have HN : Hid (∀ m ∈ ([p, n, f, t] : List Int), I64 m) := by
    intro m hn
    have := HH.out.2
    unfold Rgn.Fine at this
    simp only at this
    rw [List.mem_cons, List.mem_cons, List.mem_cons, List.mem_singleton] at hn
    unfold I64 at *; rcases hn with rfl | rfl | rfl | rfl <;> omega
  clear h hf
  go_enter Tryz.func60, Tryz.ntmps60
  go_wp2_with fail
  refine (numbers_at (w1 := w.alloc _) (w.heap.size + 1) [p, n, f, t] HH.out.1 ((Keeps.refl _ w).alloc _) (by simp) HN.out (by simp) (by omega)).mono ?_
  rintro e w1 ⟨rfl, hP⟩
  have HP : Hid (Put w a b g xs w1 _ _) := hP
  clear hP HN
  go_wp2
  go_end0
  exact ⟨rfl, HP.out⟩

set_option maxHeartbeats 400000 in
theorem channel_any (a b : Nat) (g : Option Nat) (xs : List UInt8) (d : Bool) (x : Chn) (w : World) (h : Wt w a b g xs d) (hx : xs.length + 300 ≤ 140737488355328) (hf : x.Fine) :
    Calls Tryz.prog 45 #[.pointer (some ⟨a, 0, none⟩), x.v] w fun e w' => e = .returned (.tuple #[]) ∧ Put w a b g xs w' x.e (d || x.d) := by
  obtain ⟨p, n, f⟩ := x
  have HH : Hid (Wt w a b g xs d ∧ _) := ⟨h, hf⟩
  have HN : Hid (∀ m ∈ ([p, n, f] : List Int), I64 m) := by
    intro m hn
    have := HH.out.2
    unfold Chn.Fine at this
    simp only at this
    rw [List.mem_cons, List.mem_cons, List.mem_singleton] at hn
    unfold I64 at *; rcases hn with rfl | rfl | rfl <;> omega
  clear h hf
  go_enter Tryz.func45, Tryz.ntmps45
  go_wp2_with fail
  refine (numbers_at (w1 := w.alloc _) (w.heap.size + 1) [p, n, f] HH.out.1 ((Keeps.refl _ w).alloc _) (by simp) HN.out (by simp) (by omega)).mono ?_
  rintro e w1 ⟨rfl, hP⟩
  have HP : Hid (Put w a b g xs w1 _ _) := hP
  clear hP HN
  go_wp2
  go_end0
  exact ⟨rfl, HP.out⟩

set_option maxHeartbeats 400000 in
theorem wport_any (a b : Nat) (g : Option Nat) (xs : List UInt8) (d : Bool) (x : Prt) (w : World) (h : Wt w a b g xs d) (hx : xs.length + 300 ≤ 140737488355328) (hf : x.Fine) :
    Calls Tryz.prog 62 #[.pointer (some ⟨a, 0, none⟩), x.v] w fun e w' => e = .returned (.tuple #[]) ∧ Put w a b g xs w' x.e (d || x.d) := by
  obtain ⟨c, s⟩ := x
  have HN : Hid (∀ m ∈ ([c] : List Int), I64 m) := by
    intro m hn
    have := hf
    unfold Prt.Fine at this
    simp only at this
    rw [List.mem_singleton] at hn
    rw [hn]; exact this
  have HH : Hid (Wt w a b g xs d) := h
  clear h hf
  go_enter Tryz.func62, Tryz.ntmps62
  go_wp2_with fail
  refine (numbers_at (w1 := w.alloc (.cells #[.int .i64 c, .bool s] 55)) (w.heap.size + 1) [c] (HH.out.kept ((Keeps.refl (fun _ => False) w).alloc _) fun _ _ e => e) (Keeps.refl _ _) (by simp) HN.out (by simp) (by omega)).mono ?_
  rintro e w1 ⟨rfl, hP⟩
  have hB : Blk w1 w.heap.size [.int .i64 c, .bool s] 55 := by
    obtain ⟨_, _, _, hK⟩ := hP
    exact (Blk.new w _ 55).kept hK (own_newW (w1 := w) HH.out (Nat.le_refl _))
  obtain ⟨g1, hw1, hg1, hK1⟩ := hP.grown ((Keeps.refl _ w).alloc _)
  have q0 := hB.cell (i := 0) rfl
  have q1 := hB.cell (i := 1) rfl
  have p0 := hw1.blk.cell (i := 0) rfl
  have HP : Hid (Wt w1 a b g1 (xs ++ nbs [c]) (d || wNs [c]) ∧ (g1 = g ∨ ∃ k, g1 = some k ∧ w.heap.size ≤ k) ∧ Keeps (Own a b g) w w1) := ⟨hw1, hg1, hK1⟩
  clear hw1 hg1 hK1 hB HN
  cases s
  · go_wp2_with fail
    refine (put_u8 0 HP.out.1 (by rw [List.length_append, nbs_length]; simp; omega) (by omega)).mono ?_
    rintro e w2 ⟨rfl, hP⟩
    have HQ : Hid (Put w a b g xs w2 _ _) := Put.trans HP.out.2.1 HP.out.2.2 hP
    clear hP q0 q1 p0 HP
    go_wp2
    go_end0
    exact ⟨rfl, HQ.out⟩
  · go_wp2_with fail
    refine (put_u8 1 HP.out.1 (by rw [List.length_append, nbs_length]; simp; omega) (by omega)).mono ?_
    rintro e w2 ⟨rfl, hP⟩
    have HQ : Hid (Put w a b g xs w2 _ _) := Put.trans HP.out.2.1 HP.out.2.2 hP
    clear hP q0 q1 p0 HP
    go_wp2
    go_end0
    exact ⟨rfl, HQ.out⟩
end Go.Proofs.YtjadpbkhfclldaaGreat
namespace Go.Proofs.YtjadpbkhfclldaaGreat
open Go.RowKit
set_option linter.unusedVariables false
set_option maxRecDepth 6000

set_option maxHeartbeats 2000000 in
theorem writeWins_any (a b : Nat) (g : Option Nat) (xs : List UInt8) (d : Bool) (ad : Option Addr) (c : Nat) (l : List Win) (w : World) (h : Wt w a b g xs d) (hs : SegA Win.vs 3 w ad l) (hn : l ≠ [] → ∀ x, ad = some x → ¬ Own a b g x.block)
    (hl : l.length ≤ c ∧ c ≤ maxLen) (hx : xs.length + 4000 ≤ 140737488355328)
    (hE : ∀ x ∈ l, ∀ (W : World) (g' : Option Nat) (zs : List UInt8) (d' : Bool), Keeps (Own a b g) w W → Wt W a b g' zs d' → (g' = g ∨ ∃ k, g' = some k ∧ w.heap.size ≤ k) → zs.length + 300 ≤ 140737488355328 →
      Calls Tryz.prog 57 #[.pointer (some ⟨a, 0, none⟩), x.v] W fun e w' => e = .returned (.tuple #[]) ∧ Put W a b g' zs w' x.e (d' || x.d)) :
    Calls Tryz.prog 56 #[.pointer (some ⟨a, 0, none⟩), .slice ad l.length c, .func (.func 57) #[] #[]] w fun e w' => e = .returned (.tuple #[]) ∧ Put w a b g xs w' (listB Win.e l) (d || listW Win.d l) := by
  have p0 := h.blk.cell (i := 0) rfl
  have p1 := h.blk.frozen 1
  have p3 := h.blk.cell (i := 1) rfl
  obtain ⟨L, hL⟩ : ∃ L, L = l.length := ⟨_, rfl⟩
  have HS : Hid (Wt w a b g xs d ∧ SegA Win.vs 3 w ad l ∧ (l ≠ [] → ∀ x, ad = some x → ¬ Own a b g x.block) ∧ L = l.length ∧ xs.length + 4000 ≤ 140737488355328) := ⟨h, hs, hn, hL, hx⟩
  have HE : Hid (∀ x ∈ l, ∀ (W : World) (g' : Option Nat) (zs : List UInt8) (d' : Bool), Keeps (Own a b g) w W → Wt W a b g' zs d' → (g' = g ∨ ∃ k, g' = some k ∧ w.heap.size ≤ k) → zs.length + 300 ≤ 140737488355328 →
      Calls Tryz.prog 57 #[.pointer (some ⟨a, 0, none⟩), x.v] W fun e w' => e = .returned (.tuple #[]) ∧ Put W a b g' zs w' x.e (d' || x.d)) := hE
  have hc2 : (L : Int) ≤ c := by omega
  have hc3 : (c : Int) ≤ 9223372036854775807 := by unfold maxLen at hl; omega
  rw [← hL]
  clear h hs hn hL hx hE hl
  by_cases hl : 255 < L
  · have hl' : (255 : Int) < L := by omega
    have HL : Hid (255 < l.length) := by have := HS.out.2.2.2.1; show 255 < l.length; omega
    go_enter Tryz.func56, Tryz.ntmps56
    go_wp2
    refine bodyPost_ret (results_none rfl _ _ _) rfl ?_
    refine ⟨rfl, g, ?_, .inl rfl, Keeps.wide⟩
    have e1 : listB Win.e l = [] := by unfold listB; rw [if_pos HL.out]
    have e2 : listW Win.d l = true := by unfold listW; rw [decide_eq_true HL.out]; rfl
    rw [e1, e2, List.append_nil, Bool.or_true]
    exact HS.out.1.wide
  · have hl' : ¬ (255 : Int) < L := by omega
    have hcv : IntKind.u8.wrap (L : Int) = L := by rw [IntKind.wrap_u8']; omega
    have e1 : listB Win.e l = lowB 1 L ++ l.flatMap Win.e := by unfold listB; rw [if_neg (by have := HS.out.2.2.2.1; omega), ← HS.out.2.2.2.1]
    have e2 : listW Win.d l = l.any Win.d := by unfold listW; rw [decide_eq_false (by have := HS.out.2.2.2.1; omega)]; rfl
    rw [e1, e2]
    clear e1 e2
    go_enter Tryz.func56, Tryz.ntmps56
    go_wp2_with fail
    refine (put_u8 L HS.out.1 (by have := HS.out.2.2.2.2; omega) (by omega)).mono ?_
    rintro e w0 ⟨rfl, hP⟩
    have HP : Hid (Put w a b g xs w0 (lowB 1 L) d) := hP
    clear hP p0 p1 p3 hcv
    go_wp2
    go_loopw [24] (fun i wr => ∃ j : Nat, j ≤ L ∧ i = .int .i64 j ∧ Put w a b g xs wr (lowB 1 L ++ (l.take j).flatMap Win.e) (d || (l.take j).any Win.d)) (fun i _ => L - (intOf i).toNat)
    case atStart => exact ⟨0, by omega, rfl, HP.out.cong (by simp) (by simp)⟩
    case round =>
      clear HP
      obtain ⟨j, hj, rfl, g1, hw1, hg1, hK1⟩ := hrel
      by_cases hlt : j < L
      · obtain ⟨y, hy⟩ : ∃ y, l[j]? = some y := ⟨_, List.getElem?_eq_getElem (by have := HS.out.2.2.2.1; omega)⟩
        obtain ⟨gl, o, rfl, hg⟩ := (HS.out.2.1.kept hK1 HS.out.2.2.1).at hy
        have y0 := hg 0 _ rfl
        rw [Nat.add_zero] at y0
        have y1 := hg 1 _ rfl
        have y2 := hg 2 _ rfl
        have HL : Hid ((xs ++ (lowB 1 L ++ (l.take j).flatMap Win.e)).length + 300 ≤ 140737488355328) := by
          have h1 := flat_le Win.e 12 Win.e_le (l.take j)
          have h2 : (l.take j).length ≤ j := List.length_take_le _ _
          have h3 : (l.take j).length * 12 ≤ 255 * 12 := Nat.mul_le_mul_right _ (by omega)
          have := HS.out.2.2.2.2
          show (xs ++ (lowB 1 L ++ (l.take j).flatMap Win.e)).length + 300 ≤ 140737488355328
          rw [List.length_append, List.length_append, lowB_len]; omega
        obtain ⟨W, hWd⟩ : ∃ W, W = wr.alloc (.cells #[.int .i64 y.p, .int .i64 y.u, .int .i64 y.s] 51) := ⟨_, rfl⟩
        have hKW : Keeps (Own a b g) w W := by rw [hWd]; exact hK1.alloc _
        have hWt : Wt W a b g1 (xs ++ (lowB 1 L ++ (l.take j).flatMap Win.e)) (d || (l.take j).any Win.d) := by rw [hWd]; exact hw1.kept ((Keeps.refl (fun _ => False) wr).alloc _) fun _ _ e => e
        have HC : Hid (Calls _ _ _ _ _) := HE.out y (List.mem_of_getElem? hy) W g1 _ _ hKW hWt hg1 HL.out
        have HF : Hid (∀ w2, Put W a b g1 (xs ++ (lowB 1 L ++ (l.take j).flatMap Win.e)) w2 y.e (d || (l.take j).any Win.d || y.d) → Put w a b g xs w2 (lowB 1 L ++ (l.take (j + 1)).flatMap Win.e) (d || (l.take (j + 1)).any Win.d)) := by
          intro w2 hP
          refine (Put.trans hg1 hKW hP).cong ?_ ?_
          · rw [take_get Win.e l j y hy, List.append_assoc]
          · rw [take_any Win.d l j y hy, Bool.or_assoc]
        clear hy hg hw1 hg1 hK1 hKW hWt HL
        subst hWd
        go_wp2_with fail
        refine HC.out.mono ?_
        rintro r w2 ⟨rfl, hP⟩
        have HP : Hid (Put w a b g xs w2 (lowB 1 L ++ (l.take (j + 1)).flatMap Win.e) (d || (l.take (j + 1)).any Win.d)) := HF.out w2 hP
        clear hP HC HF y0 y1 y2
        go_wp2
        go_roundw
        case rel => exact ⟨j + 1, by omega, by go_num, HP.out⟩
        case measure => simp [intOf]; omega
      · obtain rfl : j = L := by omega
        have HP : Hid (Put w a b g xs wr (lowB 1 j ++ l.flatMap Win.e) (d || l.any Win.d)) := by
          have : l.take j = l := List.take_of_length_le (by have := HS.out.2.2.2.1; omega)
          rw [this] at hw1
          exact ⟨g1, hw1, hg1, hK1⟩
        clear hw1 hg1 hK1
        go_wp2
        go_end0
        exact ⟨rfl, HP.out⟩

end Go.Proofs.YtjadpbkhfclldaaGreat
