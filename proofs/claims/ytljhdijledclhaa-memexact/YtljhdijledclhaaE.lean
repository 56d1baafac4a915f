import Derived.Test.YtljhdijledclhaaD
import Derived.Deep.RegionHeld3
import Derived.StillTactics
import Derived.Laws.Pointers
import Derived.KernelRfl
namespace Go.Proofs.Ytljhdijledclhaa
open Go.RowKit
set_option linter.unusedVariables false

def actV (k a b c : Int) (x : Nat) (ad : Option Addr) (m cap : Nat) : Value := .agg #[.int .i64 k, .int .i64 a, .int .i64 b, .int .i64 c, .int .u32 (x : Int), .slice ad m cap]
def actL (k a b c : Int) (x : Nat) (ad : Option Addr) (m cap : Nat) : List Value := [.int .i64 k, .int .i64 a, .int .i64 b, .int .i64 c, .int .u32 (x : Int), .slice ad m cap]

theorem Mm.lt {w : World} {b g : Nat} {xs : List UInt32} (h : Mm w b g xs) : b < w.heap.size ∧ g < w.heap.size := ⟨h.blk.lt, h.row.lt⟩
theorem Mm.drewN {w : World} {b g : Nat} {xs : List UInt32} (h : Mm w b g xs) (n : Nat) : Mm (w.drewN n) b g xs := ⟨h.ne, h.blk, h.row, h.small⟩
theorem Mm.drew {w : World} {b g : Nat} {xs : List UInt32} (h : Mm w b g xs) : Mm w.drew b g xs := ⟨h.ne, h.blk, h.row, h.small⟩
theorem Mm.alloc {w : World} {b g : Nat} {xs : List UInt32} (h : Mm w b g xs) (o : Obj) : Mm (w.alloc o) b g xs := ⟨h.ne, h.blk.alloc o, h.row.alloc o, h.small⟩

set_option maxHeartbeats 1000000 in
theorem does_zero (b g : Nat) (xs zs : List UInt32) (k a bb c : Int) (x : Nat) (ad : Option Addr) (m cap : Nat) (er : Int) (w : World) (T : World → Prop) (hT : ∀ w w', T w → Keeps (fun _ => False) w w' → T w')
    (HP : Hid (∀ w, Calls Try.prog 15 #[.int .i64 k, .int .i64 4] w fun e w' => e = .returned (.int .i64 0) ∧ w' = w))
    (HC : Hid (∀ w, T w → Mm w b g xs → Calls Try.prog 21 #[.pointer (some ⟨b, 0, none⟩), .int .i64 a, .int .u32 (x : Int)] w fun e w' => e = .returned (.int .i64 er) ∧ Mm w' b g zs ∧ Keeps (· = g) w w'))
    (h : Mm w b g xs) (ht : T w) :
    Calls Try.prog 19 #[.pointer (some ⟨b, 0, none⟩), actV k a bb c x ad m cap] w fun e w' => e = .returned (.tuple #[.int .i64 a, .int .i64 1, .int .i64 er]) ∧ Mm w' b g zs ∧ Keeps (· = g) w w' := by
  have HM : Hid (Mm w b g xs) := h
  have HT : Hid (T w) := ht
  have HTT : Hid (∀ w w', T w → Keeps (fun _ => False) w w' → T w') := hT
  have hblk := Blk.new w (actL k a bb c x ad m cap).toArray 53
  have hne : g ≠ w.heap.size := by have := h.lt; omega
  unfold actL at hblk
  unfold actV
  clear h ht hT
  go_enter Try.func19, Try.ntmps19
  go_wp2_with fail
  refine (HP.out _).mono ?_
  rintro e w1 ⟨rfl, hw⟩
  have hM1 : Mm w1 b g xs := by rw [hw]; exact HM.out.alloc _
  have hT1 : T w1.drew := by rw [hw]; exact HTT.out _ _ HT.out (((Keeps.refl _ w).alloc _).drew)
  obtain ⟨G, hG⟩ : ∃ G, G = w.heap.size := ⟨_, rfl⟩
  have hB1 : Blk w1 G [.int .i64 k, .int .i64 a, .int .i64 bb, .int .i64 c, .int .u32 (x : Int), .slice ad m cap] 53 := by rw [hw, hG]; exact hblk
  have hK1 : Keeps (· = g) w w1.drew := by rw [hw]; exact ((Keeps.refl _ w).alloc _).drew
  rw [← hG] at hne ⊢
  have HB : Hid (Mm w1 b g xs ∧ Blk _ _ _ _ ∧ Keeps (· = g) w w1.drew ∧ g ≠ G ∧ T w1.drew) := ⟨hM1, hB1, hK1, hne, hT1⟩
  have c1 := hB1.cell (i := 1) rfl
  have c4 := hB1.cell (i := 4) rfl
  clear hw hblk hM1 hB1 hK1 hG hne HM HP HT HTT hT1
  go_wp2
  go_region_held3 (fun w' => w'.cell? ⟨G, 1, none⟩ = some (.int .i64 a) ∧ w'.cell? ⟨G, 4, none⟩ = some (.int .u32 (x : Int))) (first | exact hS | go_keep)
    (first | (go_at_call 21; refine (HC.out _ HB.out.2.2.2.2 HB.out.1.drew).mono ?_; rintro e w2 ⟨rfl, hM2, hK2⟩; have hB2 := (HB.out.2.1.drew).kept hK2 (fun e => HB.out.2.2.2.1 e.symm); have hS : w2.cell? ⟨G, 1, none⟩ = some (.int .i64 a) ∧ w2.cell? ⟨G, 4, none⟩ = some (.int .u32 (x : Int)) := ⟨hB2.cell rfl, hB2.cell rfl⟩))
  go_wp2
  go_ret3
  exact ⟨rfl, hM2, HB.out.2.2.1.trans hK2 fun _ _ h => h⟩

set_option maxHeartbeats 1000000 in
theorem does_one (b g : Nat) (xs zs : List UInt32) (k a bb c : Int) (x : Nat) (ad : Option Addr) (m cap : Nat) (er : Int) (w : World) (T : World → Prop) (hT : ∀ w w', T w → Keeps (fun _ => False) w w' → T w')
    (HP : Hid (∀ w, Calls Try.prog 15 #[.int .i64 k, .int .i64 4] w fun e w' => e = .returned (.int .i64 1) ∧ w' = w))
    (HC : Hid (∀ w, T w → Mm w b g xs → Calls Try.prog 40 #[.pointer (some ⟨b, 0, none⟩), .int .i64 a, .slice ad m cap] w fun e w' => e = .returned (.int .i64 er) ∧ Mm w' b g zs ∧ Keeps (· = g) w w'))
    (h : Mm w b g xs) (ht : T w) :
    Calls Try.prog 19 #[.pointer (some ⟨b, 0, none⟩), actV k a bb c x ad m cap] w fun e w' => e = .returned (.tuple #[.int .i64 a, .int .i64 m, .int .i64 er]) ∧ Mm w' b g zs ∧ Keeps (· = g) w w' := by
  have HM : Hid (Mm w b g xs) := h
  have HT : Hid (T w) := ht
  have HTT : Hid (∀ w w', T w → Keeps (fun _ => False) w w' → T w') := hT
  have hblk := Blk.new w (actL k a bb c x ad m cap).toArray 53
  have hne : g ≠ w.heap.size := by have := h.lt; omega
  unfold actL at hblk
  unfold actV
  clear h ht hT
  go_enter Try.func19, Try.ntmps19
  go_wp2_with fail
  refine (HP.out _).mono ?_
  rintro e w1 ⟨rfl, hw⟩
  have hM1 : Mm w1 b g xs := by rw [hw]; exact HM.out.alloc _
  have hT1 : T w1.drew := by rw [hw]; exact HTT.out _ _ HT.out (((Keeps.refl _ w).alloc _).drew)
  obtain ⟨G, hG⟩ : ∃ G, G = w.heap.size := ⟨_, rfl⟩
  have hB1 : Blk w1 G [.int .i64 k, .int .i64 a, .int .i64 bb, .int .i64 c, .int .u32 (x : Int), .slice ad m cap] 53 := by rw [hw, hG]; exact hblk
  have hK1 : Keeps (· = g) w w1.drew := by rw [hw]; exact ((Keeps.refl _ w).alloc _).drew
  rw [← hG] at hne ⊢
  have HB : Hid (Mm w1 b g xs ∧ Blk _ _ _ _ ∧ Keeps (· = g) w w1.drew ∧ g ≠ G ∧ T w1.drew) := ⟨hM1, hB1, hK1, hne, hT1⟩
  have c1 := hB1.cell (i := 1) rfl
  have c5 := hB1.cell (i := 5) rfl
  clear hw hblk hM1 hB1 hK1 hG hne HM HP HT HTT hT1
  go_wp2
  go_region_held3 (fun w' => w'.cell? ⟨G, 1, none⟩ = some (.int .i64 a) ∧ w'.cell? ⟨G, 5, none⟩ = some (.slice ad m cap)) (first | exact hS | go_keep)
    (first | (go_at_call 40; refine (HC.out _ HB.out.2.2.2.2 HB.out.1.drew).mono ?_; rintro e w2 ⟨rfl, hM2, hK2⟩; have hB2 := (HB.out.2.1.drew).kept hK2 (fun e => HB.out.2.2.2.1 e.symm); have hS : w2.cell? ⟨G, 1, none⟩ = some (.int .i64 a) ∧ w2.cell? ⟨G, 5, none⟩ = some (.slice ad m cap) := ⟨hB2.cell rfl, hB2.cell rfl⟩))
  go_wp2
  go_ret3
  exact ⟨rfl, hM2, HB.out.2.2.1.trans hK2 fun _ _ h => h⟩

set_option maxHeartbeats 1000000 in
theorem does_two (b g : Nat) (xs zs : List UInt32) (k a bb c : Int) (x : Nat) (ad : Option Addr) (m cap : Nat) (er : Int) (w : World) (T : World → Prop) (hT : ∀ w w', T w → Keeps (fun _ => False) w w' → T w')
    (HP : Hid (∀ w, Calls Try.prog 15 #[.int .i64 k, .int .i64 4] w fun e w' => e = .returned (.int .i64 2) ∧ w' = w))
    (HC : Hid (∀ w, T w → Mm w b g xs → Calls Try.prog 41 #[.pointer (some ⟨b, 0, none⟩), .int .i64 a, .int .i64 bb, .int .u32 (x : Int)] w fun e w' => e = .returned (.int .i64 er) ∧ Mm w' b g zs ∧ Keeps (· = g) w w'))
    (h : Mm w b g xs) (ht : T w) :
    Calls Try.prog 19 #[.pointer (some ⟨b, 0, none⟩), actV k a bb c x ad m cap] w fun e w' => e = .returned (.tuple #[.int .i64 a, .int .i64 bb, .int .i64 er]) ∧ Mm w' b g zs ∧ Keeps (· = g) w w' := by
  have HM : Hid (Mm w b g xs) := h
  have HT : Hid (T w) := ht
  have HTT : Hid (∀ w w', T w → Keeps (fun _ => False) w w' → T w') := hT
  have hblk := Blk.new w (actL k a bb c x ad m cap).toArray 53
  have hne : g ≠ w.heap.size := by have := h.lt; omega
  unfold actL at hblk
  unfold actV
  clear h ht hT
  go_enter Try.func19, Try.ntmps19
  go_wp2_with fail
  refine (HP.out _).mono ?_
  rintro e w1 ⟨rfl, hw⟩
  have hM1 : Mm w1 b g xs := by rw [hw]; exact HM.out.alloc _
  have hT1 : T w1.drew := by rw [hw]; exact HTT.out _ _ HT.out (((Keeps.refl _ w).alloc _).drew)
  obtain ⟨G, hG⟩ : ∃ G, G = w.heap.size := ⟨_, rfl⟩
  have hB1 : Blk w1 G [.int .i64 k, .int .i64 a, .int .i64 bb, .int .i64 c, .int .u32 (x : Int), .slice ad m cap] 53 := by rw [hw, hG]; exact hblk
  have hK1 : Keeps (· = g) w w1.drew := by rw [hw]; exact ((Keeps.refl _ w).alloc _).drew
  rw [← hG] at hne ⊢
  have HB : Hid (Mm w1 b g xs ∧ Blk _ _ _ _ ∧ Keeps (· = g) w w1.drew ∧ g ≠ G ∧ T w1.drew) := ⟨hM1, hB1, hK1, hne, hT1⟩
  have c1 := hB1.cell (i := 1) rfl
  have c2 := hB1.cell (i := 2) rfl
  have c4 := hB1.cell (i := 4) rfl
  clear hw hblk hM1 hB1 hK1 hG hne HM HP HT HTT hT1
  go_wp2
  go_region_held3 (fun w' => w'.cell? ⟨G, 1, none⟩ = some (.int .i64 a) ∧ w'.cell? ⟨G, 2, none⟩ = some (.int .i64 bb) ∧ w'.cell? ⟨G, 4, none⟩ = some (.int .u32 (x : Int))) (first | exact hS | go_keep)
    (first | (go_at_call 41; refine (HC.out _ HB.out.2.2.2.2 HB.out.1.drew).mono ?_; rintro e w2 ⟨rfl, hM2, hK2⟩; have hB2 := (HB.out.2.1.drew).kept hK2 (fun e => HB.out.2.2.2.1 e.symm); have hS : w2.cell? ⟨G, 1, none⟩ = some (.int .i64 a) ∧ w2.cell? ⟨G, 2, none⟩ = some (.int .i64 bb) ∧ w2.cell? ⟨G, 4, none⟩ = some (.int .u32 (x : Int)) := ⟨hB2.cell rfl, hB2.cell rfl, hB2.cell rfl⟩))
  go_wp2
  go_ret3
  exact ⟨rfl, hM2, HB.out.2.2.1.trans hK2 fun _ _ h => h⟩

set_option maxHeartbeats 1000000 in
theorem does_three (b g : Nat) (xs zs : List UInt32) (k a bb c : Int) (x : Nat) (ad : Option Addr) (m cap : Nat) (er : Int) (w : World) (T : World → Prop) (hT : ∀ w w', T w → Keeps (fun _ => False) w w' → T w')
    (HP : Hid (∀ w, Calls Try.prog 15 #[.int .i64 k, .int .i64 4] w fun e w' => e = .returned (.int .i64 3) ∧ w' = w))
    (HC : Hid (∀ w, T w → Mm w b g xs → Calls Try.prog 42 #[.pointer (some ⟨b, 0, none⟩), .int .i64 a, .int .i64 bb, .int .i64 c] w fun e w' => e = .returned (.int .i64 er) ∧ Mm w' b g zs ∧ Keeps (· = g) w w'))
    (h : Mm w b g xs) (ht : T w) :
    Calls Try.prog 19 #[.pointer (some ⟨b, 0, none⟩), actV k a bb c x ad m cap] w fun e w' => e = .returned (.tuple #[.int .i64 a, .int .i64 c, .int .i64 er]) ∧ Mm w' b g zs ∧ Keeps (· = g) w w' := by
  have HM : Hid (Mm w b g xs) := h
  have HT : Hid (T w) := ht
  have HTT : Hid (∀ w w', T w → Keeps (fun _ => False) w w' → T w') := hT
  have hblk := Blk.new w (actL k a bb c x ad m cap).toArray 53
  have hne : g ≠ w.heap.size := by have := h.lt; omega
  unfold actL at hblk
  unfold actV
  clear h ht hT
  go_enter Try.func19, Try.ntmps19
  go_wp2_with fail
  refine (HP.out _).mono ?_
  rintro e w1 ⟨rfl, hw⟩
  have hM1 : Mm w1 b g xs := by rw [hw]; exact HM.out.alloc _
  have hT1 : T w1.drew := by rw [hw]; exact HTT.out _ _ HT.out (((Keeps.refl _ w).alloc _).drew)
  obtain ⟨G, hG⟩ : ∃ G, G = w.heap.size := ⟨_, rfl⟩
  have hB1 : Blk w1 G [.int .i64 k, .int .i64 a, .int .i64 bb, .int .i64 c, .int .u32 (x : Int), .slice ad m cap] 53 := by rw [hw, hG]; exact hblk
  have hK1 : Keeps (· = g) w w1.drew := by rw [hw]; exact ((Keeps.refl _ w).alloc _).drew
  rw [← hG] at hne ⊢
  have HB : Hid (Mm w1 b g xs ∧ Blk _ _ _ _ ∧ Keeps (· = g) w w1.drew ∧ g ≠ G ∧ T w1.drew) := ⟨hM1, hB1, hK1, hne, hT1⟩
  have c1 := hB1.cell (i := 1) rfl
  have c2 := hB1.cell (i := 2) rfl
  have c3 := hB1.cell (i := 3) rfl
  clear hw hblk hM1 hB1 hK1 hG hne HM HP HT HTT hT1
  go_wp2
  go_region_held3 (fun w' => w'.cell? ⟨G, 1, none⟩ = some (.int .i64 a) ∧ w'.cell? ⟨G, 2, none⟩ = some (.int .i64 bb) ∧ w'.cell? ⟨G, 3, none⟩ = some (.int .i64 c)) (first | exact hS | go_keep)
    (first | (go_at_call 42; refine (HC.out _ HB.out.2.2.2.2 HB.out.1.drew).mono ?_; rintro e w2 ⟨rfl, hM2, hK2⟩; have hB2 := (HB.out.2.1.drew).kept hK2 (fun e => HB.out.2.2.2.1 e.symm); have hS : w2.cell? ⟨G, 1, none⟩ = some (.int .i64 a) ∧ w2.cell? ⟨G, 2, none⟩ = some (.int .i64 bb) ∧ w2.cell? ⟨G, 3, none⟩ = some (.int .i64 c) := ⟨hB2.cell rfl, hB2.cell rfl, hB2.cell rfl⟩))
  go_wp2
  go_ret3
  exact ⟨rfl, hM2, HB.out.2.2.1.trans hK2 fun _ _ h => h⟩

end Go.Proofs.Ytljhdijledclhaa
