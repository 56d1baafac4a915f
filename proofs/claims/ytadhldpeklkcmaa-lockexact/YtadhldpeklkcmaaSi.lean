import Derived.Test.YtadhldpeklkcmaaSh
namespace Go.Proofs.Ytadhldpeklkcmaa
open Go.RowKit
set_option linter.unusedVariables false
set_option maxRecDepth 10000

/-- The cells that a call of words looks at. -/
def wcell (p : Pst) (o : Opr) (B : Nat) (w : World) : Prop := w.cell? ⟨p.WB, 0, none⟩ = some (.pointer (some ⟨p.mb, 0, none⟩)) ∧ w.cell? ⟨p.WB, 1, none⟩ = some (.pointer (some ⟨p.nb, 0, none⟩)) ∧ w.cell? ⟨B, 2, none⟩ = some (.int .i64 o.a) ∧ w.cell? ⟨B, 5, none⟩ = some (.int .u32 (o.wd.toNat : Int))
theorem wcell_of {p : Pst} {N : Nat} {o : Opr} {B : Nat} {w : World} (h : p.Ok N w) (hB : Blk w B o.vs 30) : wcell p o B w := ⟨h.blk.cell (i := 0) rfl, h.blk.cell (i := 1) rfl, hB.cell (i := 2) rfl, hB.cell (i := 5) rfl⟩

set_option maxHeartbeats 1000000 in
theorem words_take (p : Pst) (N : Nat) (o : Opr) (w : World) (hok : p.Ok N w) (hs : p.Same) (hp1 : -9223372036854775808 ≤ o.a) (hp2 : o.a ≤ 9223372036854775807) (hkd : o.kind = 1) :
    Calls Try.prog 7 #[.pointer (some ⟨p.WB, 0, none⟩), .agg o.vs.toArray] w (PlayP p N w) := by
  obtain ⟨hkb, hO⟩ := box_op o w
  obtain ⟨w1, hw1⟩ : ∃ w1, w1 = w.alloc (.cells o.vs.toArray 30) := ⟨_, rfl⟩
  rw [← hw1] at hkb hO
  have hok1 := hok.same hkb
  have HS : Hid p.Same := hs
  have HO : Hid (p.Ok N w1 ∧ Keeps (fun _ => False) w w1) := ⟨hok1, hkb⟩
  obtain ⟨B, hB⟩ : ∃ B, B = w.heap.size := ⟨_, rfl⟩
  have HB : Hid (Blk w1 B o.vs 30 ∧ ¬ B = p.g ∧ ¬ B = p.h) := ⟨by rw [hB]; exact hO, fun e => by have := hok.sep.lt 1 p.g (Pst.f1 (.inr rfl)); omega, fun e => by have := hok.sep.lt 2 p.h (Pst.f2 (.inr rfl)); omega⟩
  have H1 := take_any p.mb p.g p.xs o.a w1.drew hok1.drew.m1 hp2
  have H2 : ∀ w', Rm w' p.nb p.h p.zs → Calls _ _ _ w' _ := fun w' hr => rtake_any p.nb p.h p.zs o.a w' hr 
  rw [hs.one] at H2
  obtain ⟨R0, hR0⟩ : ∃ R, R = ((tkT p.xs o.a).toNat : Int) := ⟨_, rfl⟩
  rw [← hR0] at H1 H2
  obtain ⟨R1, hR1⟩ : ∃ R, R = (tkE p.xs o.a : Int) := ⟨_, rfl⟩
  rw [← hR1] at H1 H2
  have H1 : Hid (Calls _ _ _ _ _) := H1
  have H2 : Hid (∀ w', Rm w' p.nb p.h p.xs → Calls _ _ _ _ _) := H2
  have k0 : w1.cell? ⟨B, 0, none⟩ = some (.int .i64 1) := by rw [← hkd]; exact HB.out.1.cell (i := 0) rfl
  have hS0 : wcell p o B w1.drew := wcell_of hok1.drew HB.out.1.drew
  have HW : Hid (w.alloc (.cells #[.int .i64 1, .int .i64 o.who, .int .i64 o.a, .int .i64 o.b, .bool o.asked, .int .u32 (o.wd.toNat : Int), .slice o.la o.ln o.lc, .slice o.ta o.tn o.tc] 30) = w1) := by rw [hw1, ← hkd]; rfl
  have hvs : o.vs.toArray = #[.int .i64 1, .int .i64 o.who, .int .i64 o.a, .int .i64 o.b, .bool o.asked, .int .u32 (o.wd.toNat : Int), .slice o.la o.ln o.lc, .slice o.ta o.tn o.tc] := by rw [← hkd]; rfl
  rw [hvs]
  unfold wcell at hS0
  have Q2 : Hid (∀ w2, Mm w2 p.mb p.g (tkX p.xs o.a) → Keeps (· = p.g) w1.drew w2 → Pst.Ok { p with xs := tkX p.xs o.a } N w2 ∧ Keeps (fun k => N ≤ k) w w2 ∧ Blk w2 B o.vs 30) := fun w2 hm2 hk2 => ⟨HO.out.1.drew.mem1 hm2 hk2, (HO.out.2.none.trans (Keeps.refl (fun k => N ≤ k) _).drew fun _ _ e => e).trans hk2 fun k hk e => by subst e; exact HO.out.1.geF (Pst.f1 (.inr rfl)), HB.out.1.drew.kept hk2 HB.out.2.1⟩
  have Q3 : Hid (∀ w2 w3, (Pst.Ok { p with xs := tkX p.xs o.a } N w2 ∧ Keeps (fun k => N ≤ k) w w2 ∧ Blk w2 B o.vs 30) → Rm w3 p.nb p.h (tkX p.xs o.a) → Keeps (· = p.h) w2.drew w3 → Pst.Ok { p with xs := tkX p.xs o.a, zs := tkX p.xs o.a } N w3 ∧ Keeps (fun k => N ≤ k) w w3 ∧ Blk w3 B o.vs 30) := fun w2 w3 HP hm3 hk3 => ⟨HP.1.drew.mem2 hm3 hk3, (HP.2.1.trans (Keeps.refl (fun k => N ≤ k) _).drew fun _ _ e => e).trans hk3 fun k hk e => by subst e; exact HO.out.1.geF (Pst.f2 (.inr rfl)), HP.2.2.drew.kept hk3 HB.out.2.2⟩
  have Q4 : Hid (∀ w2, Pst.Ok { p with xs := tkX p.xs o.a } N w2 → Rm w2.drew p.nb p.h p.xs) := fun w2 h => HS.out.one ▸ h.drew.r1
  clear hok hs hkb hO hok1 hw1 hp1 hp2 hkd hvs hR0 hR1
  go_enter Try.func7, Try.ntmps7
  clear k0
  go_wp2_with (fail)
  rw [HW.out, ← hB]
  clear HW hB
  go_region_held3 (fun w' => w'.cell? ⟨p.WB, 0, none⟩ = some (.pointer (some ⟨p.mb, 0, none⟩)) ∧ w'.cell? ⟨p.WB, 1, none⟩ = some (.pointer (some ⟨p.nb, 0, none⟩)) ∧ w'.cell? ⟨B, 2, none⟩ = some (.int .i64 o.a) ∧ w'.cell? ⟨B, 5, none⟩ = some (.int .u32 (o.wd.toNat : Int))) (first | exact hS | exact hS0 | go_keep)
    (first | (go_at_call 25; refine H1.out.mono ?_; rintro e w2 ⟨rfl, hm2, hk2⟩; have HP2 : Hid _ := Q2.out w2 hm2 hk2; have hS := (wcell_of HP2.out.1 HP2.out.2.2); unfold wcell at hS))
  have hS1 : wcell { p with xs := tkX p.xs o.a } o B w2.drew := wcell_of HP2.out.1.drew HP2.out.2.2.drew
  unfold wcell at hS1
  clear hS hS0 hm2 hk2 H1
  try dsimp only at hS1
  go_wp2_with fail
  go_region_held3 (fun w' => w'.cell? ⟨p.WB, 0, none⟩ = some (.pointer (some ⟨p.mb, 0, none⟩)) ∧ w'.cell? ⟨p.WB, 1, none⟩ = some (.pointer (some ⟨p.nb, 0, none⟩)) ∧ w'.cell? ⟨B, 2, none⟩ = some (.int .i64 o.a) ∧ w'.cell? ⟨B, 5, none⟩ = some (.int .u32 (o.wd.toNat : Int))) (first | exact hS | exact hS1 | go_keep)
    (first | (go_at_call 31; refine (H2.out _ (Q4.out _ HP2.out.1)).mono ?_; rintro e w3 ⟨rfl, hm3, hk3⟩; have HP3 : Hid _ := Q3.out w2 w3 HP2.out hm3 hk3; have hS := (wcell_of HP3.out.1 HP3.out.2.2); unfold wcell at hS))
  clear hS hS1 hm3 hk3 H2
  go_wp2
  go_ret
  exact ⟨rfl, _, HP3.out.1, ⟨rfl, HS.out.two, HS.out.ch⟩, rfl, by simp, by simp, by simp, HP3.out.2.1⟩

set_option maxHeartbeats 1000000 in
theorem words_mine (p : Pst) (N : Nat) (o : Opr) (w : World) (hok : p.Ok N w) (hs : p.Same) (hp1 : -9223372036854775808 ≤ o.a) (hp2 : o.a ≤ 9223372036854775807) (hkd : o.kind = 2) :
    Calls Try.prog 7 #[.pointer (some ⟨p.WB, 0, none⟩), .agg o.vs.toArray] w (PlayP p N w) := by
  obtain ⟨hkb, hO⟩ := box_op o w
  obtain ⟨w1, hw1⟩ : ∃ w1, w1 = w.alloc (.cells o.vs.toArray 30) := ⟨_, rfl⟩
  rw [← hw1] at hkb hO
  have hok1 := hok.same hkb
  have HS : Hid p.Same := hs
  have HO : Hid (p.Ok N w1 ∧ Keeps (fun _ => False) w w1) := ⟨hok1, hkb⟩
  obtain ⟨B, hB⟩ : ∃ B, B = w.heap.size := ⟨_, rfl⟩
  have HB : Hid (Blk w1 B o.vs 30 ∧ ¬ B = p.g ∧ ¬ B = p.h) := ⟨by rw [hB]; exact hO, fun e => by have := hok.sep.lt 1 p.g (Pst.f1 (.inr rfl)); omega, fun e => by have := hok.sep.lt 2 p.h (Pst.f2 (.inr rfl)); omega⟩
  have H1 := mine_any p.mb p.g p.xs o.a o.wd w1.drew hok1.drew.m1 hp2
  have H2 : ∀ w', Rm w' p.nb p.h p.zs → Calls _ _ _ w' _ := fun w' hr => rmine_any p.nb p.h p.zs o.a o.wd w' hr 
  rw [hs.one] at H2
  obtain ⟨R0, hR0⟩ : ∃ R, R = mnB p.xs o.a o.wd := ⟨_, rfl⟩
  rw [← hR0] at H1 H2
  obtain ⟨R1, hR1⟩ : ∃ R, R = (okE p.xs o.a : Int) := ⟨_, rfl⟩
  rw [← hR1] at H1 H2
  have H1 : Hid (Calls _ _ _ _ _) := H1
  have H2 : Hid (∀ w', Rm w' p.nb p.h p.xs → Calls _ _ _ _ _) := H2
  have k0 : w1.cell? ⟨B, 0, none⟩ = some (.int .i64 2) := by rw [← hkd]; exact HB.out.1.cell (i := 0) rfl
  have hS0 : wcell p o B w1.drew := wcell_of hok1.drew HB.out.1.drew
  have HW : Hid (w.alloc (.cells #[.int .i64 2, .int .i64 o.who, .int .i64 o.a, .int .i64 o.b, .bool o.asked, .int .u32 (o.wd.toNat : Int), .slice o.la o.ln o.lc, .slice o.ta o.tn o.tc] 30) = w1) := by rw [hw1, ← hkd]; rfl
  have hvs : o.vs.toArray = #[.int .i64 2, .int .i64 o.who, .int .i64 o.a, .int .i64 o.b, .bool o.asked, .int .u32 (o.wd.toNat : Int), .slice o.la o.ln o.lc, .slice o.ta o.tn o.tc] := by rw [← hkd]; rfl
  rw [hvs]
  unfold wcell at hS0
  have Q2 : Hid (∀ w2, Keeps (fun _ => False) w1.drew w2 → Pst.Ok p N w2 ∧ Keeps (fun k => N ≤ k) w w2 ∧ Blk w2 B o.vs 30) := fun w2 hk2 => ⟨HO.out.1.drew.same hk2, (HO.out.2.none.trans (Keeps.refl (fun k => N ≤ k) _).drew fun _ _ e => e).trans hk2 fun k hk e => e.elim, HB.out.1.drew.kept hk2 id⟩
  have Q3 : Hid (∀ w2 w3, (Pst.Ok p N w2 ∧ Keeps (fun k => N ≤ k) w w2 ∧ Blk w2 B o.vs 30) → Keeps (fun _ => False) w2.drew w3 → Pst.Ok p N w3 ∧ Keeps (fun k => N ≤ k) w w3 ∧ Blk w3 B o.vs 30) := fun w2 w3 HP hk3 => ⟨HP.1.drew.same hk3, (HP.2.1.trans (Keeps.refl (fun k => N ≤ k) _).drew fun _ _ e => e).trans hk3 fun k hk e => e.elim, HP.2.2.drew.kept hk3 id⟩
  have Q4 : Hid (∀ w2, Pst.Ok p N w2 → Rm w2.drew p.nb p.h p.xs) := fun w2 h => HS.out.one ▸ h.drew.r1
  clear hok hs hkb hO hok1 hw1 hp1 hp2 hkd hvs hR0 hR1
  go_enter Try.func7, Try.ntmps7
  clear k0
  go_wp2_with (fail)
  rw [HW.out, ← hB]
  clear HW hB
  go_region_held3 (fun w' => w'.cell? ⟨p.WB, 0, none⟩ = some (.pointer (some ⟨p.mb, 0, none⟩)) ∧ w'.cell? ⟨p.WB, 1, none⟩ = some (.pointer (some ⟨p.nb, 0, none⟩)) ∧ w'.cell? ⟨B, 2, none⟩ = some (.int .i64 o.a) ∧ w'.cell? ⟨B, 5, none⟩ = some (.int .u32 (o.wd.toNat : Int))) (first | exact hS | exact hS0 | go_keep)
    (first | (go_at_call 32; refine H1.out.mono ?_; rintro e w2 ⟨rfl, hk2⟩; have HP2 : Hid _ := Q2.out w2 hk2; have hS := (wcell_of HP2.out.1 HP2.out.2.2); unfold wcell at hS))
  have hS1 : wcell p o B w2.drew := wcell_of HP2.out.1.drew HP2.out.2.2.drew
  unfold wcell at hS1
  clear hS hS0 hk2 H1
  try dsimp only at hS1
  go_wp2_with fail
  go_region_held3 (fun w' => w'.cell? ⟨p.WB, 0, none⟩ = some (.pointer (some ⟨p.mb, 0, none⟩)) ∧ w'.cell? ⟨p.WB, 1, none⟩ = some (.pointer (some ⟨p.nb, 0, none⟩)) ∧ w'.cell? ⟨B, 2, none⟩ = some (.int .i64 o.a) ∧ w'.cell? ⟨B, 5, none⟩ = some (.int .u32 (o.wd.toNat : Int))) (first | exact hS | exact hS1 | go_keep)
    (first | (go_at_call 33; refine (H2.out _ (Q4.out _ HP2.out.1)).mono ?_; rintro e w3 ⟨rfl, hk3⟩; have HP3 : Hid _ := Q3.out w2 w3 HP2.out hk3; have hS := (wcell_of HP3.out.1 HP3.out.2.2); unfold wcell at hS))
  clear hS hS1 hk3 H2
  go_wp2
  go_ret
  exact ⟨rfl, _, HP3.out.1, HS.out, rfl, by simp, by simp, by simp, HP3.out.2.1⟩

set_option maxHeartbeats 1000000 in
theorem words_free (p : Pst) (N : Nat) (o : Opr) (w : World) (hok : p.Ok N w) (hs : p.Same) (hp1 : -9223372036854775808 ≤ o.a) (hp2 : o.a ≤ 9223372036854775807) (hkd : o.kind = 3) :
    Calls Try.prog 7 #[.pointer (some ⟨p.WB, 0, none⟩), .agg o.vs.toArray] w (PlayP p N w) := by
  obtain ⟨hkb, hO⟩ := box_op o w
  obtain ⟨w1, hw1⟩ : ∃ w1, w1 = w.alloc (.cells o.vs.toArray 30) := ⟨_, rfl⟩
  rw [← hw1] at hkb hO
  have hok1 := hok.same hkb
  have HS : Hid p.Same := hs
  have HO : Hid (p.Ok N w1 ∧ Keeps (fun _ => False) w w1) := ⟨hok1, hkb⟩
  obtain ⟨B, hB⟩ : ∃ B, B = w.heap.size := ⟨_, rfl⟩
  have HB : Hid (Blk w1 B o.vs 30 ∧ ¬ B = p.g ∧ ¬ B = p.h) := ⟨by rw [hB]; exact hO, fun e => by have := hok.sep.lt 1 p.g (Pst.f1 (.inr rfl)); omega, fun e => by have := hok.sep.lt 2 p.h (Pst.f2 (.inr rfl)); omega⟩
  have H1 := free_any p.mb p.g p.xs o.a o.wd w1.drew hok1.drew.m1 hp2
  have H2 : ∀ w', Rm w' p.nb p.h p.zs → Calls _ _ _ w' _ := fun w' hr => rfree_any p.nb p.h p.zs o.a o.wd w' hr 
  rw [hs.one] at H2
  obtain ⟨R0, hR0⟩ : ∃ R, R = (frE p.xs o.a o.wd : Int) := ⟨_, rfl⟩
  rw [← hR0] at H1 H2
  have H1 : Hid (Calls _ _ _ _ _) := H1
  have H2 : Hid (∀ w', Rm w' p.nb p.h p.xs → Calls _ _ _ _ _) := H2
  have k0 : w1.cell? ⟨B, 0, none⟩ = some (.int .i64 3) := by rw [← hkd]; exact HB.out.1.cell (i := 0) rfl
  have hS0 : wcell p o B w1.drew := wcell_of hok1.drew HB.out.1.drew
  have HW : Hid (w.alloc (.cells #[.int .i64 3, .int .i64 o.who, .int .i64 o.a, .int .i64 o.b, .bool o.asked, .int .u32 (o.wd.toNat : Int), .slice o.la o.ln o.lc, .slice o.ta o.tn o.tc] 30) = w1) := by rw [hw1, ← hkd]; rfl
  have hvs : o.vs.toArray = #[.int .i64 3, .int .i64 o.who, .int .i64 o.a, .int .i64 o.b, .bool o.asked, .int .u32 (o.wd.toNat : Int), .slice o.la o.ln o.lc, .slice o.ta o.tn o.tc] := by rw [← hkd]; rfl
  rw [hvs]
  unfold wcell at hS0
  have Q2 : Hid (∀ w2, Mm w2 p.mb p.g (frX p.xs o.a o.wd) → Keeps (· = p.g) w1.drew w2 → Pst.Ok { p with xs := frX p.xs o.a o.wd } N w2 ∧ Keeps (fun k => N ≤ k) w w2 ∧ Blk w2 B o.vs 30) := fun w2 hm2 hk2 => ⟨HO.out.1.drew.mem1 hm2 hk2, (HO.out.2.none.trans (Keeps.refl (fun k => N ≤ k) _).drew fun _ _ e => e).trans hk2 fun k hk e => by subst e; exact HO.out.1.geF (Pst.f1 (.inr rfl)), HB.out.1.drew.kept hk2 HB.out.2.1⟩
  have Q3 : Hid (∀ w2 w3, (Pst.Ok { p with xs := frX p.xs o.a o.wd } N w2 ∧ Keeps (fun k => N ≤ k) w w2 ∧ Blk w2 B o.vs 30) → Rm w3 p.nb p.h (frX p.xs o.a o.wd) → Keeps (· = p.h) w2.drew w3 → Pst.Ok { p with xs := frX p.xs o.a o.wd, zs := frX p.xs o.a o.wd } N w3 ∧ Keeps (fun k => N ≤ k) w w3 ∧ Blk w3 B o.vs 30) := fun w2 w3 HP hm3 hk3 => ⟨HP.1.drew.mem2 hm3 hk3, (HP.2.1.trans (Keeps.refl (fun k => N ≤ k) _).drew fun _ _ e => e).trans hk3 fun k hk e => by subst e; exact HO.out.1.geF (Pst.f2 (.inr rfl)), HP.2.2.drew.kept hk3 HB.out.2.2⟩
  have Q4 : Hid (∀ w2, Pst.Ok { p with xs := frX p.xs o.a o.wd } N w2 → Rm w2.drew p.nb p.h p.xs) := fun w2 h => HS.out.one ▸ h.drew.r1
  clear hok hs hkb hO hok1 hw1 hp1 hp2 hkd hvs hR0
  go_enter Try.func7, Try.ntmps7
  clear k0
  go_wp2_with (fail)
  rw [HW.out, ← hB]
  clear HW hB
  go_region_held3 (fun w' => w'.cell? ⟨p.WB, 0, none⟩ = some (.pointer (some ⟨p.mb, 0, none⟩)) ∧ w'.cell? ⟨p.WB, 1, none⟩ = some (.pointer (some ⟨p.nb, 0, none⟩)) ∧ w'.cell? ⟨B, 2, none⟩ = some (.int .i64 o.a) ∧ w'.cell? ⟨B, 5, none⟩ = some (.int .u32 (o.wd.toNat : Int))) (first | exact hS | exact hS0 | go_keep)
    (first | (go_at_call 34; refine H1.out.mono ?_; rintro e w2 ⟨rfl, hm2, hk2⟩; have HP2 : Hid _ := Q2.out w2 hm2 hk2; have hS := (wcell_of HP2.out.1 HP2.out.2.2); unfold wcell at hS))
  have hS1 : wcell { p with xs := frX p.xs o.a o.wd } o B w2.drew := wcell_of HP2.out.1.drew HP2.out.2.2.drew
  unfold wcell at hS1
  clear hS hS0 hm2 hk2 H1
  try dsimp only at hS1
  go_wp2_with fail
  go_region_held3 (fun w' => w'.cell? ⟨p.WB, 0, none⟩ = some (.pointer (some ⟨p.mb, 0, none⟩)) ∧ w'.cell? ⟨p.WB, 1, none⟩ = some (.pointer (some ⟨p.nb, 0, none⟩)) ∧ w'.cell? ⟨B, 2, none⟩ = some (.int .i64 o.a) ∧ w'.cell? ⟨B, 5, none⟩ = some (.int .u32 (o.wd.toNat : Int))) (first | exact hS | exact hS1 | go_keep)
    (first | (go_at_call 35; refine (H2.out _ (Q4.out _ HP2.out.1)).mono ?_; rintro e w3 ⟨rfl, hm3, hk3⟩; have HP3 : Hid _ := Q3.out w2 w3 HP2.out hm3 hk3; have hS := (wcell_of HP3.out.1 HP3.out.2.2); unfold wcell at hS))
  clear hS hS1 hm3 hk3 H2
  go_wp2
  go_ret
  exact ⟨rfl, _, HP3.out.1, ⟨rfl, HS.out.two, HS.out.ch⟩, rfl, by simp, by simp, by simp, HP3.out.2.1⟩

set_option maxHeartbeats 1000000 in
theorem words_waiting (p : Pst) (N : Nat) (o : Opr) (w : World) (hok : p.Ok N w) (hs : p.Same) (hp1 : -9223372036854775808 ≤ o.a) (hp2 : o.a ≤ 9223372036854775807) (hkd : o.kind = 4) :
    Calls Try.prog 7 #[.pointer (some ⟨p.WB, 0, none⟩), .agg o.vs.toArray] w (PlayP p N w) := by
  obtain ⟨hkb, hO⟩ := box_op o w
  obtain ⟨w1, hw1⟩ : ∃ w1, w1 = w.alloc (.cells o.vs.toArray 30) := ⟨_, rfl⟩
  rw [← hw1] at hkb hO
  have hok1 := hok.same hkb
  have HS : Hid p.Same := hs
  have HO : Hid (p.Ok N w1 ∧ Keeps (fun _ => False) w w1) := ⟨hok1, hkb⟩
  obtain ⟨B, hB⟩ : ∃ B, B = w.heap.size := ⟨_, rfl⟩
  have HB : Hid (Blk w1 B o.vs 30 ∧ ¬ B = p.g ∧ ¬ B = p.h) := ⟨by rw [hB]; exact hO, fun e => by have := hok.sep.lt 1 p.g (Pst.f1 (.inr rfl)); omega, fun e => by have := hok.sep.lt 2 p.h (Pst.f2 (.inr rfl)); omega⟩
  have H1 := waiting_any p.mb p.g p.xs o.a w1.drew hok1.drew.m1 hp2
  have H2 : ∀ w', Rm w' p.nb p.h p.zs → Calls _ _ _ w' _ := fun w' hr => rwaiting_any p.nb p.h p.zs o.a w' hr 
  rw [hs.one] at H2
  obtain ⟨R0, hR0⟩ : ∃ R, R = (wtN p.xs o.a : Int) := ⟨_, rfl⟩
  rw [← hR0] at H1 H2
  obtain ⟨R1, hR1⟩ : ∃ R, R = (okE p.xs o.a : Int) := ⟨_, rfl⟩
  rw [← hR1] at H1 H2
  have H1 : Hid (Calls _ _ _ _ _) := H1
  have H2 : Hid (∀ w', Rm w' p.nb p.h p.xs → Calls _ _ _ _ _) := H2
  have k0 : w1.cell? ⟨B, 0, none⟩ = some (.int .i64 4) := by rw [← hkd]; exact HB.out.1.cell (i := 0) rfl
  have hS0 : wcell p o B w1.drew := wcell_of hok1.drew HB.out.1.drew
  have HW : Hid (w.alloc (.cells #[.int .i64 4, .int .i64 o.who, .int .i64 o.a, .int .i64 o.b, .bool o.asked, .int .u32 (o.wd.toNat : Int), .slice o.la o.ln o.lc, .slice o.ta o.tn o.tc] 30) = w1) := by rw [hw1, ← hkd]; rfl
  have hvs : o.vs.toArray = #[.int .i64 4, .int .i64 o.who, .int .i64 o.a, .int .i64 o.b, .bool o.asked, .int .u32 (o.wd.toNat : Int), .slice o.la o.ln o.lc, .slice o.ta o.tn o.tc] := by rw [← hkd]; rfl
  rw [hvs]
  unfold wcell at hS0
  have Q2 : Hid (∀ w2, Keeps (fun _ => False) w1.drew w2 → Pst.Ok p N w2 ∧ Keeps (fun k => N ≤ k) w w2 ∧ Blk w2 B o.vs 30) := fun w2 hk2 => ⟨HO.out.1.drew.same hk2, (HO.out.2.none.trans (Keeps.refl (fun k => N ≤ k) _).drew fun _ _ e => e).trans hk2 fun k hk e => e.elim, HB.out.1.drew.kept hk2 id⟩
  have Q3 : Hid (∀ w2 w3, (Pst.Ok p N w2 ∧ Keeps (fun k => N ≤ k) w w2 ∧ Blk w2 B o.vs 30) → Keeps (fun _ => False) w2.drew w3 → Pst.Ok p N w3 ∧ Keeps (fun k => N ≤ k) w w3 ∧ Blk w3 B o.vs 30) := fun w2 w3 HP hk3 => ⟨HP.1.drew.same hk3, (HP.2.1.trans (Keeps.refl (fun k => N ≤ k) _).drew fun _ _ e => e).trans hk3 fun k hk e => e.elim, HP.2.2.drew.kept hk3 id⟩
  have Q4 : Hid (∀ w2, Pst.Ok p N w2 → Rm w2.drew p.nb p.h p.xs) := fun w2 h => HS.out.one ▸ h.drew.r1
  clear hok hs hkb hO hok1 hw1 hp1 hp2 hkd hvs hR0 hR1
  go_enter Try.func7, Try.ntmps7
  clear k0
  go_wp2_with (fail)
  rw [HW.out, ← hB]
  clear HW hB
  go_region_held3 (fun w' => w'.cell? ⟨p.WB, 0, none⟩ = some (.pointer (some ⟨p.mb, 0, none⟩)) ∧ w'.cell? ⟨p.WB, 1, none⟩ = some (.pointer (some ⟨p.nb, 0, none⟩)) ∧ w'.cell? ⟨B, 2, none⟩ = some (.int .i64 o.a) ∧ w'.cell? ⟨B, 5, none⟩ = some (.int .u32 (o.wd.toNat : Int))) (first | exact hS | exact hS0 | go_keep)
    (first | (go_at_call 23; refine H1.out.mono ?_; rintro e w2 ⟨rfl, hk2⟩; have HP2 : Hid _ := Q2.out w2 hk2; have hS := (wcell_of HP2.out.1 HP2.out.2.2); unfold wcell at hS))
  have hS1 : wcell p o B w2.drew := wcell_of HP2.out.1.drew HP2.out.2.2.drew
  unfold wcell at hS1
  clear hS hS0 hk2 H1
  try dsimp only at hS1
  go_wp2_with fail
  go_region_held3 (fun w' => w'.cell? ⟨p.WB, 0, none⟩ = some (.pointer (some ⟨p.mb, 0, none⟩)) ∧ w'.cell? ⟨p.WB, 1, none⟩ = some (.pointer (some ⟨p.nb, 0, none⟩)) ∧ w'.cell? ⟨B, 2, none⟩ = some (.int .i64 o.a) ∧ w'.cell? ⟨B, 5, none⟩ = some (.int .u32 (o.wd.toNat : Int))) (first | exact hS | exact hS1 | go_keep)
    (first | (go_at_call 36; refine (H2.out _ (Q4.out _ HP2.out.1)).mono ?_; rintro e w3 ⟨rfl, hk3⟩; have HP3 : Hid _ := Q3.out w2 w3 HP2.out hk3; have hS := (wcell_of HP3.out.1 HP3.out.2.2); unfold wcell at hS))
  clear hS hS1 hk3 H2
  go_wp2
  go_ret
  exact ⟨rfl, _, HP3.out.1, HS.out, rfl, by simp, by simp, by simp, HP3.out.2.1⟩

set_option maxHeartbeats 1000000 in
theorem words_write (p : Pst) (N : Nat) (o : Opr) (w : World) (hok : p.Ok N w) (hs : p.Same) (hp1 : -9223372036854775808 ≤ o.a) (hp2 : o.a ≤ 9223372036854775807) (hkd : o.kind = 11) :
    Calls Try.prog 7 #[.pointer (some ⟨p.WB, 0, none⟩), .agg o.vs.toArray] w (PlayP p N w) := by
  obtain ⟨hkb, hO⟩ := box_op o w
  obtain ⟨w1, hw1⟩ : ∃ w1, w1 = w.alloc (.cells o.vs.toArray 30) := ⟨_, rfl⟩
  rw [← hw1] at hkb hO
  have hok1 := hok.same hkb
  have HS : Hid p.Same := hs
  have HO : Hid (p.Ok N w1 ∧ Keeps (fun _ => False) w w1) := ⟨hok1, hkb⟩
  obtain ⟨B, hB⟩ : ∃ B, B = w.heap.size := ⟨_, rfl⟩
  have HB : Hid (Blk w1 B o.vs 30 ∧ ¬ B = p.g ∧ ¬ B = p.h) := ⟨by rw [hB]; exact hO, fun e => by have := hok.sep.lt 1 p.g (Pst.f1 (.inr rfl)); omega, fun e => by have := hok.sep.lt 2 p.h (Pst.f2 (.inr rfl)); omega⟩
  have H1 := write_any p.mb p.g p.xs o.a o.wd w1.drew hok1.drew.m1 hp2
  have H2 : ∀ w', Rm w' p.nb p.h p.zs → Calls _ _ _ w' _ := fun w' hr => rwrite_any p.nb p.h p.zs o.a o.wd w' hr hp1 hp2
  rw [hs.one] at H2
  obtain ⟨R0, hR0⟩ : ∃ R, R = (wrE p.xs o.a : Int) := ⟨_, rfl⟩
  rw [← hR0] at H1 H2
  have H1 : Hid (Calls _ _ _ _ _) := H1
  have H2 : Hid (∀ w', Rm w' p.nb p.h p.xs → Calls _ _ _ _ _) := H2
  have k0 : w1.cell? ⟨B, 0, none⟩ = some (.int .i64 11) := by rw [← hkd]; exact HB.out.1.cell (i := 0) rfl
  have hS0 : wcell p o B w1.drew := wcell_of hok1.drew HB.out.1.drew
  have HW : Hid (w.alloc (.cells #[.int .i64 11, .int .i64 o.who, .int .i64 o.a, .int .i64 o.b, .bool o.asked, .int .u32 (o.wd.toNat : Int), .slice o.la o.ln o.lc, .slice o.ta o.tn o.tc] 30) = w1) := by rw [hw1, ← hkd]; rfl
  have hvs : o.vs.toArray = #[.int .i64 11, .int .i64 o.who, .int .i64 o.a, .int .i64 o.b, .bool o.asked, .int .u32 (o.wd.toNat : Int), .slice o.la o.ln o.lc, .slice o.ta o.tn o.tc] := by rw [← hkd]; rfl
  rw [hvs]
  unfold wcell at hS0
  have Q2 : Hid (∀ w2, Mm w2 p.mb p.g (wrX p.xs o.a o.wd) → Keeps (· = p.g) w1.drew w2 → Pst.Ok { p with xs := wrX p.xs o.a o.wd } N w2 ∧ Keeps (fun k => N ≤ k) w w2 ∧ Blk w2 B o.vs 30) := fun w2 hm2 hk2 => ⟨HO.out.1.drew.mem1 hm2 hk2, (HO.out.2.none.trans (Keeps.refl (fun k => N ≤ k) _).drew fun _ _ e => e).trans hk2 fun k hk e => by subst e; exact HO.out.1.geF (Pst.f1 (.inr rfl)), HB.out.1.drew.kept hk2 HB.out.2.1⟩
  have Q3 : Hid (∀ w2 w3, (Pst.Ok { p with xs := wrX p.xs o.a o.wd } N w2 ∧ Keeps (fun k => N ≤ k) w w2 ∧ Blk w2 B o.vs 30) → Rm w3 p.nb p.h (wrX p.xs o.a o.wd) → Keeps (· = p.h) w2.drew w3 → Pst.Ok { p with xs := wrX p.xs o.a o.wd, zs := wrX p.xs o.a o.wd } N w3 ∧ Keeps (fun k => N ≤ k) w w3 ∧ Blk w3 B o.vs 30) := fun w2 w3 HP hm3 hk3 => ⟨HP.1.drew.mem2 hm3 hk3, (HP.2.1.trans (Keeps.refl (fun k => N ≤ k) _).drew fun _ _ e => e).trans hk3 fun k hk e => by subst e; exact HO.out.1.geF (Pst.f2 (.inr rfl)), HP.2.2.drew.kept hk3 HB.out.2.2⟩
  have Q4 : Hid (∀ w2, Pst.Ok { p with xs := wrX p.xs o.a o.wd } N w2 → Rm w2.drew p.nb p.h p.xs) := fun w2 h => HS.out.one ▸ h.drew.r1
  clear hok hs hkb hO hok1 hw1 hp1 hp2 hkd hvs hR0
  go_enter Try.func7, Try.ntmps7
  clear k0
  go_wp2_with (fail)
  rw [HW.out, ← hB]
  clear HW hB
  go_region_held3 (fun w' => w'.cell? ⟨p.WB, 0, none⟩ = some (.pointer (some ⟨p.mb, 0, none⟩)) ∧ w'.cell? ⟨p.WB, 1, none⟩ = some (.pointer (some ⟨p.nb, 0, none⟩)) ∧ w'.cell? ⟨B, 2, none⟩ = some (.int .i64 o.a) ∧ w'.cell? ⟨B, 5, none⟩ = some (.int .u32 (o.wd.toNat : Int))) (first | exact hS | exact hS0 | go_keep)
    (first | (go_at_call 37; refine H1.out.mono ?_; rintro e w2 ⟨rfl, hm2, hk2⟩; have HP2 : Hid _ := Q2.out w2 hm2 hk2; have hS := (wcell_of HP2.out.1 HP2.out.2.2); unfold wcell at hS))
  have hS1 : wcell { p with xs := wrX p.xs o.a o.wd } o B w2.drew := wcell_of HP2.out.1.drew HP2.out.2.2.drew
  unfold wcell at hS1
  clear hS hS0 hm2 hk2 H1
  try dsimp only at hS1
  go_wp2_with fail
  go_region_held3 (fun w' => w'.cell? ⟨p.WB, 0, none⟩ = some (.pointer (some ⟨p.mb, 0, none⟩)) ∧ w'.cell? ⟨p.WB, 1, none⟩ = some (.pointer (some ⟨p.nb, 0, none⟩)) ∧ w'.cell? ⟨B, 2, none⟩ = some (.int .i64 o.a) ∧ w'.cell? ⟨B, 5, none⟩ = some (.int .u32 (o.wd.toNat : Int))) (first | exact hS | exact hS1 | go_keep)
    (first | (go_at_call 38; refine (H2.out _ (Q4.out _ HP2.out.1)).mono ?_; rintro e w3 ⟨rfl, hm3, hk3⟩; have HP3 : Hid _ := Q3.out w2 w3 HP2.out hm3 hk3; have hS := (wcell_of HP3.out.1 HP3.out.2.2); unfold wcell at hS))
  clear hS hS1 hm3 hk3 H2
  go_wp2
  go_ret
  exact ⟨rfl, _, HP3.out.1, ⟨rfl, HS.out.two, HS.out.ch⟩, rfl, by simp, by simp, by simp, HP3.out.2.1⟩
end Go.Proofs.Ytadhldpeklkcmaa
