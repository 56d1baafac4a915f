import Derived.Test.YtadhldpeklkcmaaJ
import Derived.Deep.RegionHeld3
namespace Go.Proofs.Ytadhldpeklkcmaa
open Go.RowKit
set_option linter.unusedVariables false

def heldN (tk : List UInt32) (st : Nat) : Nat := if st = 2 then tk.length - 1 else tk.length
def askedB (st : Nat) : Bool := decide (st = 2)

/-- What State leaves. -/
def StateP (X : Chn) (w : World) (e : Ending) (w' : World) : Prop :=
  ∃ v', e = .returned (.tuple #[.int .i64 (heldN X.tk X.st : Nat), .bool (askedB X.st), v']) ∧ w'.ownsRow 0 26 1 v' X.tk.length (wvs X.tk) ∧ (v'.ownBlock = none ∨ ∃ k, v'.ownBlock = some k ∧ w.heap.size ≤ k) ∧ Keeps (fun _ => False) w w'

theorem Chn.In.segT {X : Chn} {w : World} (h : X.In w) {a : Option Addr} {c : Nat} (hv : X.vt = .slice a X.tk.length c) : SegW w a X.tk := by
  by_cases h0 : X.tk.length = 0
  · exact .inl (List.eq_nil_of_length_eq_zero h0)
  · obtain ⟨g, h1, h2⟩ := h.tkAt hv (i := 0) (by omega)
    refine .inr ⟨g, 0, h1, fun j hj => ?_⟩
    obtain ⟨g', h1', h2'⟩ := h.tkAt hv (i := j) hj
    rw [h1] at h1'
    cases h1'
    rw [Nat.zero_add, h2']
    simp [List.getD, List.getElem?_eq_getElem hj]

set_option maxHeartbeats 1000000 in
theorem state_any (X : Chn) (w : World) (h : X.In w) :
    Calls Try.prog 22 #[.pointer (some ⟨X.b, 0, none⟩)] w (StateP X w) := by
  obtain ⟨at', ct, hvt, hct, hct2⟩ := h.vtS
  have c1 := h.blk.cell (i := 1) rfl
  have c2 := h.blk.cell (i := 2) rfl
  rw [hvt] at c1
  have hsm : X.tk.length ≤ 4294967296 := by have := h.small; rcases h.wf with h | h | h <;> omega
  have HC := fun w1 (h1 : X.In w1) => clone_words at' ct X.tk w1 (h1.segT hvt) hsm
  obtain ⟨nt, hnt⟩ : ∃ nt, nt = X.tk.length := ⟨_, rfl⟩
  have HL : Hid (X.In w) := h
  rw [← hnt] at c1 HC
  by_cases h2 : X.st = 2
  · have h0 : 0 < X.tk.length := by rcases h.wf with h | h | h <;> omega
    have h3 : IntKind.i64.wrap ((nt : Int) - 1) = (nt - 1 : Nat) := by rw [IntKind.wrap_i64]; omega
    obtain ⟨n1, hn1⟩ : ∃ n1, n1 = nt - 1 := ⟨_, rfl⟩
    rw [← hn1] at h3
    rw [h2] at c2
    have HE : Hid ((heldN X.tk X.st = n1) ∧ askedB X.st = true ∧ nt = X.tk.length) := ⟨by unfold heldN; rw [if_pos h2, hn1, hnt], by unfold askedB; rw [h2]; rfl, hnt⟩
    have HC : Hid (∀ w1, X.In w1 → Calls _ _ _ _ _) := HC
    clear h hvt hct hct2 hsm hnt h2 h0 hn1
    go_enter Try.func22, Try.ntmps22
    go_wp2_with fail
    have hS0 : w.cell? ⟨X.b, 1, none⟩ = some (.slice at' nt ct) ∧ w.cell? ⟨X.b, 2, none⟩ = some (.int .i64 2) := ⟨c1, c2⟩
    go_region_held3 (fun w' => w'.cell? ⟨X.b, 1, none⟩ = some (.slice at' nt ct) ∧ w'.cell? ⟨X.b, 2, none⟩ = some (.int .i64 2)) (first | exact hS0 | go_keep) (fail)
    have c1' : w.drew.cell? ⟨X.b, 1, none⟩ = some (.slice at' nt ct) := c1
    obtain ⟨w1, hw1⟩ : ∃ w1, w1 = w.drew := ⟨_, rfl⟩
    have hk1 : Keeps (fun _ => False) w w1 := by rw [hw1]; exact (Keeps.refl _ _).drew
    rw [← hw1] at c1' ⊢
    have HX1 : Hid (X.In w1 ∧ Keeps (fun _ => False) w w1) := ⟨HL.out.grown hk1, hk1⟩
    have HC1 : Hid (Calls _ _ _ _ _) := HC.out w1 HX1.out.1
    clear hk1 hw1 HC c1 c2 hS0
    go_wp2_with fail
    refine HC1.out.mono ?_
    rintro e w2 ⟨v', rfl, ho, hf, hk⟩
    have HF : Hid (StateP X w (.returned (.tuple #[.int .i64 (n1 : Nat), .bool true, v'])) w2) := by
      rw [← HE.out.1, ← HE.out.2.1]
      refine ⟨v', rfl, by rw [← HE.out.2.2]; exact ho, ?_, HX1.out.2.trans hk fun _ _ e => e⟩
      rcases hf with h | ⟨k, h, h2⟩
      · exact .inl h
      · exact .inr ⟨k, h, Nat.le_trans HX1.out.2.size h2⟩
    clear ho hf hk
    go_wp2
    go_ret3
    exact HF.out
  · have h2' : ¬ ((X.st : Int) = 2) := by omega
    have HE : Hid ((heldN X.tk X.st = nt) ∧ askedB X.st = false ∧ nt = X.tk.length) := ⟨by unfold heldN; rw [if_neg h2, hnt], by unfold askedB; exact decide_eq_false h2, hnt⟩
    have HC : Hid (∀ w1, X.In w1 → Calls _ _ _ _ _) := HC
    obtain ⟨S, hS⟩ : ∃ S : Int, S = (X.st : Int) := ⟨_, rfl⟩
    rw [← hS] at c2 h2'
    clear h hvt hct hct2 hsm hnt h2 hS
    go_enter Try.func22, Try.ntmps22
    go_wp2_with fail
    have hS0 : w.cell? ⟨X.b, 1, none⟩ = some (.slice at' nt ct) ∧ w.cell? ⟨X.b, 2, none⟩ = some (.int .i64 S) := ⟨c1, c2⟩
    go_region_held3 (fun w' => w'.cell? ⟨X.b, 1, none⟩ = some (.slice at' nt ct) ∧ w'.cell? ⟨X.b, 2, none⟩ = some (.int .i64 S)) (first | exact hS0 | go_keep) (fail)
    have c1' : w.drew.cell? ⟨X.b, 1, none⟩ = some (.slice at' nt ct) := c1
    obtain ⟨w1, hw1⟩ : ∃ w1, w1 = w.drew := ⟨_, rfl⟩
    have hk1 : Keeps (fun _ => False) w w1 := by rw [hw1]; exact (Keeps.refl _ _).drew
    rw [← hw1] at c1' ⊢
    have HX1 : Hid (X.In w1 ∧ Keeps (fun _ => False) w w1) := ⟨HL.out.grown hk1, hk1⟩
    have HC1 : Hid (Calls _ _ _ _ _) := HC.out w1 HX1.out.1
    clear hk1 hw1 HC c1 c2 hS0
    go_wp2_with fail
    refine HC1.out.mono ?_
    rintro e w2 ⟨v', rfl, ho, hf, hk⟩
    have HF : Hid (StateP X w (.returned (.tuple #[.int .i64 (nt : Nat), .bool false, v'])) w2) := by
      rw [← HE.out.1, ← HE.out.2.1]
      refine ⟨v', rfl, by rw [← HE.out.2.2]; exact ho, ?_, HX1.out.2.trans hk fun _ _ e => e⟩
      rcases hf with h | ⟨k, h, h2⟩
      · exact .inl h
      · exact .inr ⟨k, h, Nat.le_trans HX1.out.2.size h2⟩
    clear ho hf hk
    go_wp2
    go_ret3
    exact HF.out

/-- A chain was made. -/
def MkP (lk : List Int) (tk : List UInt32) (st : Nat) (w : World) (X : Chn) (w' : World) : Prop :=
  X.lk = lk ∧ X.tk = tk ∧ X.st = st ∧ X.In w' ∧ (∀ k, X.F k → w.heap.size ≤ k) ∧ Keeps (fun _ => False) w w'

set_option maxHeartbeats 1000000 in
theorem newc_any (a : Option Addr) (c : Nat) (zs : List Int) (w : World) (hx : SegI w a zs) (hl : zs.length ≤ 4294967296) (ht : ∀ z ∈ zs, z ≤ 9223372036854775807) :
    Calls Try.prog 16 #[.slice a zs.length c] w fun e w' => ∃ X, e = .returned (.pointer (some ⟨X.b, 0, none⟩)) ∧ MkP zs [] (settledN zs []) w X w' := by
  have HC : Hid (Calls _ _ _ _ _) := clone_ints a c zs w hx hl
  obtain ⟨n, hn⟩ : ∃ n, n = zs.length := ⟨_, rfl⟩
  rw [← hn] at HC ⊢
  obtain ⟨sn, hsn⟩ : ∃ sn, sn = settledN zs [] := ⟨_, rfl⟩
  rw [← hsn]
  have HL : Hid (n = zs.length ∧ zs.length ≤ 4294967296 ∧ (∀ z ∈ zs, z ≤ 9223372036854775807) ∧ sn = settledN zs []) := ⟨hn, hl, ht, hsn⟩
  clear hn hl ht hx hsn
  go_enter Try.func16, Try.ntmps16
  go_wp2_with fail
  refine HC.out.mono ?_
  rintro e w1 ⟨v', rfl, ho, hf, hk⟩
  obtain ⟨al, cl, rfl, hcl, hcl2⟩ := owns_slice ho
  have HO : Hid (_ ∧ _ ∧ _) := ⟨ho, hf, hk⟩
  clear ho hf hk HC hcl hcl2
  go_wp2_with fail
  have HS := settled_any w1.heap.size n cl 0 0 al none (.int .i64 0) (w1.alloc (.cells #[.slice al n cl, .slice none 0 0, .int .i64 0] 112)) (Blk.new w1 #[.slice al n cl, .slice none 0 0, .int .i64 0] 112)
  have hset : (if 0 = n then (0 : Int) else 1) = ((settledN zs [] : Nat) : Int) := by unfold settledN; rw [HL.out.1]; simp only [List.length_nil]; split <;> rfl
  rw [hset, ← HL.out.2.2.2] at HS
  refine HS.mono ?_
  rintro e w2 ⟨rfl, hk2⟩
  have hB := (Blk.new w1 #[.slice al n cl, .slice none 0 0, .int .i64 0] 112).kept hk2 (fun e => e)
  have c2 := hB.cell (i := 2) rfl
  have z2 := hB.frozen 2
  have hk12 : Keeps (fun _ => False) w1 w2 := ((Keeps.refl _ _).alloc _).trans hk2 fun _ _ e => e
  have HF : Hid (MkP zs [] sn w ⟨w1.heap.size, .slice al n cl, .slice none 0 0, zs, [], sn⟩ (w2.setCell ⟨w1.heap.size, 2, none⟩ (.int .i64 (sn : Int)))) := by
    have hKB : Keeps (· = w1.heap.size) w2 (w2.setCell ⟨w1.heap.size, 2, none⟩ (.int .i64 (sn : Int))) := (Keeps.refl _ _).setCell _ _ fun _ => rfl
    have hn := HL.out.1
    have hsz := HO.out.2.2.size
    refine ⟨rfl, rfl, rfl, ⟨hB.setCell 2 _, ?_, ⟨rfl, .inl ⟨rfl, rfl⟩⟩, ?_, (fun h => by cases h), (fun _ _ h => by cases h), HL.out.2.1, HL.out.2.2.1, ?_⟩, ?_, ?_⟩
    · show World.ownsRow _ 0 3 1 _ zs.length (ivs zs)
      rw [← hn]
      exact owns_kept (owns_kept HO.out.1 hk12 (fun _ _ e => e)) hKB (fun k hk e => by have := owns_lt HO.out.1 hk; omega)
    · intro h
      have := owns_lt HO.out.1 h
      exact absurd this (Nat.lt_irrefl _)
    · rw [HL.out.2.2.2]
      unfold settledN
      split
      · exact .inl ⟨rfl, by assumption⟩
      · refine .inr (.inl ⟨rfl, ?_⟩)
        show 0 < zs.length
        rename_i h
        simp only [List.length_nil] at h
        omega
    · rintro k (rfl | h | h)
      · exact hsz
      · rcases HO.out.2.1 with h1 | ⟨k', h1, h2⟩
        · rw [h1] at h; cases h
        · rw [h1] at h; cases h; exact h2
      · cases h
    · exact (HO.out.2.2.trans hk12 fun _ _ e => e).trans hKB fun k hk e => by rw [e] at hk; omega
  clear hB hk12 hk2 HS hset
  go_wp2
  go_ret
  exact ⟨_, rfl, HF.out⟩

end Go.Proofs.Ytadhldpeklkcmaa
