import Derived.Test.YtffhkapegmnklabJI
import Derived.Test.YtffhkapegmnklabJL
import Derived.Deep.CutBlock
import Derived.Deep.CutRange
namespace Go.Proofs.Ytffhkapegmnklab
open Go.RowKit Go.Shelf
set_option linter.unusedVariables false

/-- These numbers can be read at this address. -/
def SegI (w : World) (a : Option Addr) (ws : List Int) : Prop :=
  ws = [] ∨ ∃ g o, a = some ⟨g, o, none⟩ ∧ ∀ j, (h : j < ws.length) → w.cell? ⟨g, o + j, none⟩ = some (.int .i64 (ws[j]))
theorem SegI.kept {S : Nat → Prop} {w w' : World} {a : Option Addr} {ws : List Int} (h : SegI w a ws) (hK : Keeps S w w') (hn : ∀ x, a = some x → x.block < w.heap.size → ¬ S x.block) : SegI w' a ws := by
  rcases h with h | ⟨g, o, ha, hc⟩
  · exact .inl h
  · refine .inr ⟨g, o, ha, fun j hj => ?_⟩
    have h1 := hc j hj
    have hlt : g < w.heap.size := World.block_lt_of_cell? w ⟨g, o + j, none⟩ h1
    rw [World.cell?_of_block (w := w) (hK.block g hlt (hn _ ha hlt))]
    exact h1

theorem Try.info3 : (Try.prog.info? 3).map (fun i => (i.zero, i.size, i.bytes)) = some (some (.int .i64 0), 1, 8) := by kernel_rfl

theorem run_make_ints {w : World} (n : Nat) (hn : n ≤ 4294967296) :
    ∃ W1, (Instr.makeSlice 22 (.int .i64 n) (.int .i64 n)).run Try.prog w = .ok (.slice (some ⟨w.heap.size, 0, none⟩) n n) W1 ∧ Keeps (fun _ => False) w W1 ∧ ∃ cs, Blk W1 w.heap.size cs 3 ∧ cs.length = n := by
  obtain ⟨i0, hi, hz0, hz1, hz2⟩ := info_parts Try.info3
  have h := run_make (P := Try.prog) w 22 3 i0 (.int .i64 0) Try.underlying22 hi hz0 .i64 .i64 n n (by omega) (by omega) (by rw [hz2]; omega) (by omega)
  rw [hz1, Nat.mul_one, Int.toNat_natCast] at h
  refine ⟨_, h, (Keeps.refl _ w).alloc _, (madeCells (Value.int .i64 0).cells n).toList, Blk.new w _ 3, by simp [madeCells]⟩

/-- What a shelf with one list on it is. -/
theorem one_put (room : Nat) (v : Value) (h : 1 ≤ room) : L.putL room 1 v [] = [(1, v)] := by
  have : 0 < room := by omega
  simp [L.putL, look, this]
theorem one_look (v : Value) : look 1 [(1, v)] = some v := rfl
theorem one_touch (v : Value) : L.touch 1 [(1, v)] = [(1, v)] := rfl

set_option maxHeartbeats 4000000 in
theorem keeps_any (room : Int) (a : Option Addr) (ws : List Int) (c : Nat) (w : World) (hro : I.I64 room) (hs : SegI w a ws) (hc : ws.length ≤ maxLen) (hb : ∀ x ∈ ws, I.I64 x) :
    Calls Try.prog 3 #[.int .i64 room, .slice a ws.length c] w fun r w' => r = .returned (.bool true) ∧ Keeps (fun _ => False) w w' := by
  obtain ⟨n, hn⟩ : ∃ n, n = ws.length := ⟨_, rfl⟩
  have hn63 : (n : Int) ≤ 9223372036854775807 := by unfold maxLen at hc; omega
  have HSeg : Hid (SegI w a ws ∧ n = ws.length) := ⟨hs, hn⟩
  rw [← hn]
  clear hs hc hn
  by_cases hbig : (n : Int) > 2147483647
  · go_enter Try.func3, Try.ntmps3
    go_wp2
    go_ret
    exact ⟨rfl, Keeps.refl _ _⟩
  · by_cases hroom : room < 1 ∨ 4096 < room
    · have H1 : Hid (Calls _ _ _ _ _) := L.new_out room w hroom
      have H2 : Hid (Calls _ _ _ _ _) := I.awake_any w
      by_cases hr1 : room < 1
      · clear hroom
        go_enter Try.func3, Try.ntmps3
        go_wp2_with fail
        refine H1.out.mono ?_
        rintro r w1 ⟨rfl, rfl⟩
        clear H1
        go_wp2_with fail
        refine H2.out.mono ?_
        rintro r w2 ⟨rfl, hK⟩
        have HK : Hid (Keeps _ _ _) := hK
        clear H2 hK
        go_wp2
        go_ret
        exact ⟨rfl, HK.out⟩
      · have hr2 : 4096 < room := by omega
        clear hroom
        go_enter Try.func3, Try.ntmps3
        go_wp2_with fail
        refine H1.out.mono ?_
        rintro r w1 ⟨rfl, rfl⟩
        clear H1
        go_wp2_with fail
        refine H2.out.mono ?_
        rintro r w2 ⟨rfl, hK⟩
        have HK : Hid (Keeps _ _ _) := hK
        clear H2 hK
        go_wp2
        go_ret
        exact ⟨rfl, HK.out⟩
    · obtain ⟨rm, rfl⟩ : ∃ rm : Nat, room = rm := ⟨room.toNat, by omega⟩
      have hlo : 1 ≤ rm := by omega
      have H1 : Hid (Calls _ _ _ _ _) := L.new_any rm w hlo (by omega)
      have HR : Hid (1 ≤ rm) := hlo
      clear hroom hlo
      go_enter Try.func3, Try.ntmps3
      go_wp2_with fail
      refine H1.out.mono ?_
      rintro r w1 ⟨rfl, ⟨F, hS, hF⟩, hK1⟩
      obtain ⟨W2, hmk, hK2, cs, hB2, hcl⟩ := run_make_ints (w := w1) (n + 1) (by omega)
      rw [show ((n + 1 : Nat) : Int) = (n : Int) + 1 by omega] at hmk
      have HM : Hid ((Instr.makeSlice 22 (.int .i64 ((n : Int) + 1)) (.int .i64 ((n : Int) + 1))).run Try.prog w1 = .ok (.slice (some ⟨w1.heap.size, 0, none⟩) (n + 1) (n + 1)) W2) := hmk
      obtain ⟨s, hs⟩ : ∃ s, s = w.heap.size + 1 := ⟨_, rfl⟩
      obtain ⟨g, hg⟩ : ∃ g, g = w1.heap.size := ⟨_, rfl⟩
      have HH : Hid ((∃ F, L.Sf W2 s rm [] F ∧ ¬ F g ∧ ∀ b, F b → w.heap.size ≤ b) ∧ Keeps (fun _ => False) w W2 ∧ Blk W2 g cs 3 ∧ cs.length = n + 1 ∧ w.heap.size ≤ g ∧ g < W2.heap.size) := by
        refine ⟨⟨F, ?_, fun h => ?_, hF⟩, hK1.trans hK2 (fun _ _ h => h), by rw [hg]; exact hB2, hcl, by rw [hg]; exact hK1.size, by rw [hg]; exact hB2.lt⟩
        · rw [hs]; exact hS.kept hK2 fun _ _ h => h
        · have := hS.lt g h; omega
      rw [← hs]
      rw [← hg] at HM
      clear H1 hS hF hK1 hmk hK2 hB2 hcl hs hg
      have h31 : (n : Int) ≤ 2147483647 := by omega
      clear hbig hn63
      go_wp2_with (at_make; refine wpList_make_run rfl (.tmp 37) (.tmp 37) 22 rfl (.int .i64 ((n : Int) + 1)) (.int .i64 ((n : Int) + 1)) (.slice (some ⟨g, 0, none⟩) (n + 1) (n + 1)) W2 rfl rfl HM.out ?_; refine Hid.out ?_)
      unfold Hid
      clear HM
      go_upto_block 0 with fail
      go_cut [8] from 39 to 51 (fun i wc => ∃ cells, Blk wc g cells 3 ∧ cells.length = n + 1 ∧ Keeps (· = g) W2 wc)
      case rest =>
        obtain ⟨cells, hB, hcl, hKc⟩ := hcut
        obtain ⟨⟨F, hS, hFg, hFw⟩, hKw, _, _, hgw, hg2⟩ := HH.out
        have hSc : L.Sf wc s rm [] F := hS.kept hKc fun b hb he => hFg (he ▸ hb)
        have H1 : Hid (Calls _ _ _ _ _) := L.put_any s rm [] F 1 (some ⟨g, 0, none⟩) (n + 1) (n + 1) wc hSc (by omega)
        rw [one_put rm _ HR.out] at H1
        have HB : Hid (Blk wc g cells 3 ∧ cells.length = n + 1 ∧ Keeps (fun _ => False) w wc ∧ ¬ F g ∧ (∀ b, F b → w.heap.size ≤ b) ∧ w.heap.size ≤ g) :=
          ⟨hB, hcl, hKw.trans hKc fun b hb he => by omega, hFg, hFw, hgw⟩
        clear hB hcl hKc HH hS hFg hFw hKw hgw hg2 hSc
        go_wp2_with fail
        refine H1.out.mono ?_
        rintro r w3 ⟨rfl, ⟨⟨F3, hS3, hF3⟩, hK3⟩⟩
        obtain ⟨hB, hcl, hKw, hFg, hFw, hgw⟩ := HB.out
        have hB3 : Blk w3 g cells 3 := hB.kept hK3 hFg
        have hg3 : ¬ F3 g := fun h => by
          rcases hF3 g h with h | h
          · exact hFg h
          · have := hB.lt; omega
        have hw3 : ∀ b, F3 b → w.heap.size ≤ b := fun b h => by
          rcases hF3 b h with h | h
          · exact hFw b h
          · have := hKw.size; omega
        have hKw3 : Keeps (fun _ => False) w w3 := hKw.trans hK3 fun b hb he => by have := hFw b he; omega
        obtain ⟨v0, rest0, rfl⟩ : ∃ v0 rest0, cells = v0 :: rest0 := by
          cases cells with
          | nil => simp at hcl
          | cons a b => exact ⟨a, b, rfl⟩
        have c0 := hB3.cell (i := 0) rfl
        have f0 := hB3.frozen 0
        obtain ⟨w4, hw4⟩ : ∃ w4, w4 = w3.setCell ⟨g, 0, none⟩ (.int .i64 77) := ⟨_, rfl⟩
        have hB4 : Blk w4 g (.int .i64 77 :: rest0) 3 := by rw [hw4]; exact hB3.setCell 0 _
        have hK4 : Keeps (· = g) w3 w4 := by rw [hw4]; exact (Keeps.refl _ w3).setCell _ _ fun _ => rfl
        have hS4 : L.Sf w4 s rm [(1, .slice (some ⟨g, 0, none⟩) (n + 1) (n + 1))] F3 := hS3.kept hK4 fun b hb he => hg3 (he ▸ hb)
        have H2 : Hid (Calls _ _ _ _ _) := L.get_any s rm _ F3 1 w4 hS4 (by omega)
        rw [one_look, one_touch] at H2
        simp only [Option.getD_some, Option.isSome_some] at H2
        have HB4 : Hid (Blk w4 g (.int .i64 77 :: rest0) 3 ∧ Keeps (fun _ => False) w w4 ∧ ¬ F3 g ∧ (∀ b, F3 b → w.heap.size ≤ b) ∧ w.heap.size ≤ g) :=
          ⟨hB4, hKw3.trans hK4 fun b hb he => by omega, hg3, hw3, hgw⟩
        have HW4 : Hid (w4 = w3.setCell ⟨g, 0, none⟩ (.int .i64 77)) := hw4
        obtain ⟨q1, hq1⟩ : ∃ q : Int, q = (L.goneL rm 1 []).1 := ⟨_, rfl⟩
        obtain ⟨q2, hq2⟩ : ∃ q : Bool, q = (L.goneL rm 1 []).2 := ⟨_, rfl⟩
        rw [← hq1, ← hq2]
        clear H1 HB hB hcl hKw hFg hFw hgw hB3 hg3 hw3 hKw3 hB4 hK4 hS4 hw4 hS3 hF3 hK3 hq1 hq2
        go_wp2_with fail
        rw [← HW4.out]
        refine H2.out.mono ?_
        rintro r w5 ⟨rfl, ⟨⟨F5, hS5, hF5⟩, hK5⟩⟩
        obtain ⟨hB, hKw, hFg, hFw, hgw⟩ := HB4.out
        have hB5 : Blk w5 g (.int .i64 77 :: rest0) 3 := hB.kept hK5 hFg
        have hg5 : ¬ F5 g := fun h => by
          rcases hF5 g h with h | h
          · exact hFg h
          · have := hB.lt; omega
        have hw5 : ∀ b, F5 b → w.heap.size ≤ b := fun b h => by
          rcases hF5 b h with h | h
          · exact hFw b h
          · have := hKw.size; omega
        have hKw5 : Keeps (fun _ => False) w w5 := hKw.trans hK5 fun b hb he => by have := hFw b he; omega
        have d0 := hB5.cell (i := 0) rfl
        have e0 := hB5.frozen 0
        obtain ⟨w6, hw6⟩ : ∃ w6, w6 = w5.setCell ⟨g, 0, none⟩ (.int .i64 78) := ⟨_, rfl⟩
        have hB6 : Blk w6 g (.int .i64 78 :: rest0) 3 := by rw [hw6]; exact hB5.setCell 0 _
        have hK6 : Keeps (· = g) w5 w6 := by rw [hw6]; exact (Keeps.refl _ w5).setCell _ _ fun _ => rfl
        have hS6 : L.Sf w6 s rm [(1, .slice (some ⟨g, 0, none⟩) (n + 1) (n + 1))] F5 := hS5.kept hK6 fun b hb he => hg5 (he ▸ hb)
        have H3 : Hid (Calls _ _ _ _ _) := L.peek_any s rm _ F5 1 w6 hS6 (by omega)
        rw [one_look] at H3
        simp only [Option.getD_some, Option.isSome_some] at H3
        have c6 := hB6.cell (i := 0) rfl
        have HK6 : Hid (Keeps (fun _ => False) w w6) := hKw5.trans hK6 fun b hb he => by omega
        have HW6 : Hid (w6 = w5.setCell ⟨g, 0, none⟩ (.int .i64 78)) := hw6
        clear H2 HB4 hB hKw hFg hFw hgw hB5 hg5 hw5 hKw5 hB6 hK6 hS6 hw6 hS5 hF5 hK5 HW4 c0 f0
        go_wp2_with fail
        rw [← HW6.out]
        refine H3.out.mono ?_
        rintro r w7 ⟨rfl, rfl⟩
        clear H3 HW6
        go_wp2
        go_ret
        exact ⟨rfl, HK6.out⟩
      go_wp2
      go_loopw [8] (fun i wr => ∃ (j : Nat) (cells : List Value), j ≤ n ∧ i = .int .i64 j ∧ Blk wr g cells 3 ∧ cells.length = n + 1 ∧ Keeps (· = g) W2 wr) (fun i _ => n - (intOf i).toNat)
      case atStart => exact ⟨0, cs, by omega, rfl, HH.out.2.2.1, HH.out.2.2.2.1, Keeps.refl _ _⟩
      case round =>
        obtain ⟨j, cells, hj, rfl, hB, hcl, hK⟩ := hrel
        by_cases hlt : j < n
        · have hju : j < ws.length := by have := HSeg.out.2; omega
          obtain ⟨v, hv⟩ : ∃ v, cells[j]? = some v := ⟨_, List.getElem?_eq_getElem (by omega)⟩
          rcases HSeg.out.1 with h0 | ⟨b, o, rfl, hcell⟩
          · exact absurd hju (by rw [h0]; simp)
          · have hb1 : b < w.heap.size := World.block_lt_of_cell? w ⟨b, o + j, none⟩ (hcell j hju)
            have hgw := HH.out.2.2.2.2.1
            have hKw := HH.out.2.1
            have cu : wr.cell? ⟨b, o + j, none⟩ = some (.int .i64 (ws[j]'hju)) := by
              have hk2 : Keeps (fun _ => False) w wr := hKw.trans hK fun b hb he => by omega
              rw [World.cell?_of_block (w := w) (hk2.block b hb1 fun h => h)]
              exact hcell j hju
            have cg := hB.cell hv
            have fg := hB.frozen j
            obtain ⟨x, hx⟩ : ∃ x, x = ws[j]'hju := ⟨_, rfl⟩
            rw [← hx] at cu
            have HN : Hid (Blk (wr.setCell ⟨g, j, none⟩ (.int .i64 x)) g (cells.set j (.int .i64 x)) 3 ∧ (cells.set j (.int .i64 x)).length = n + 1 ∧ Keeps (· = g) W2 (wr.setCell ⟨g, j, none⟩ (.int .i64 x))) :=
              ⟨hB.setCell j _, by simpa using hcl, hK.setCell _ _ fun _ => rfl⟩
            clear hB hcl hK hju hv hcell hb1 hgw hKw hx
            go_wp2
            go_roundw
            case rel => exact ⟨j + 1, _, by omega, by go_num, HN.out⟩
            case measure => simp [intOf]; omega
        · obtain rfl : j = n := by omega
          have HN : Hid (Blk wr g cells 3 ∧ cells.length = j + 1 ∧ Keeps (· = g) W2 wr) := ⟨hB, hcl, hK⟩
          clear hB hcl hK
          go_wp2
          go_meet
          exact ⟨cells, HN.out⟩

end Go.Proofs.Ytffhkapegmnklab
