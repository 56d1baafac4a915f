import Derived.Test.YtadhldpeklkcmaaG
import Derived.Deep.RegionHeld3
namespace Go.Proofs.Ytadhldpeklkcmaa
open Go.RowKit
set_option linter.unusedVariables false

theorem tkE_cases (xs : List UInt32) (p : Int) : tkE xs p = 0 ∨ (tkE xs p ≠ 0 ∧ tkX xs p = xs ∧ tkT xs p = 0) := by
  unfold tkE tkX tkT
  split
  · split
    · right; simp
    · left; rfl
  · right; simp
theorem frE_cases (xs : List UInt32) (p : Int) (t : UInt32) : frE xs p t = 0 ∨ (frE xs p t ≠ 0 ∧ frX xs p t = xs) := by
  unfold frE frX
  split
  · split
    · right; simp
    · left; rfl
  · right; simp

theorem append_word {w : World} (x : UInt32) (v : Value) (n : Nat) (vs : List Value) (hown : w.ownsRow 0 26 1 v n vs) (hn : n ≤ 4294967296) :
    ∃ v' W', (∀ ty, (Builtin.append_ #[28, 28] ty #[v, .slice (some ⟨w.heap.size, 0, none⟩) 1 1]).run Try.prog (w.alloc (.cells #[.int .u32 (x.toNat : Int)] 26)) = .ok v' W') ∧ W'.ownsRow 0 26 1 v' (n + 1) (vs ++ [.int .u32 (x.toNat : Int)]) ∧ Grew w v W' v' := by
  obtain ⟨i0, hi, hz0, hz1, hz2⟩ := info_parts Try.info26
  obtain ⟨v', W', h1, h2, h3, h4⟩ := append_new 28 26 i0 (.int .u32 0) 1 4 Try.underlying28 hi hz0 hz1 hz2 rfl (by omega) v n vs hown #[.int .u32 (x.toNat : Int)] rfl (by
    intro y hy
    simp at hy
    subst hy; rfl) (by unfold maxLen; omega) (by omega)
  exact ⟨v', W', h1, h2, h3, h4⟩


theorem Chn.In.vlS {X : Chn} {w : World} (h : X.In w) : ∃ a c, X.vl = .slice a X.lk.length c ∧ X.lk.length ≤ c ∧ c ≤ maxLen := owns_slice h.lrow
theorem Chn.In.vtS {X : Chn} {w : World} (h : X.In w) : ∃ a c, X.vt = .slice a X.tk.length c ∧ X.tk.length ≤ c ∧ c ≤ maxLen := owns_slice h.trow
theorem Chn.In.lkAt {X : Chn} {w : World} (h : X.In w) {a : Option Addr} {c : Nat} (hv : X.vl = .slice a X.lk.length c) {i : Nat} (hi : i < X.lk.length) : ∃ g, a = some ⟨g, 0, none⟩ ∧ w.cell? ⟨g, i, none⟩ = some (.int .i64 (X.lk.getD i 0)) := by
  have hl := h.lrow
  rw [hv] at hl
  obtain ⟨g, h1, h2⟩ := owns_cell hl (ivs_get X.lk i hi)
  refine ⟨g, h1, ?_⟩
  rw [h2]; simp [List.getD, List.getElem?_eq_getElem hi]
theorem Chn.In.tkAt {X : Chn} {w : World} (h : X.In w) {a : Option Addr} {c : Nat} (hv : X.vt = .slice a X.tk.length c) {i : Nat} (hi : i < X.tk.length) : ∃ g, a = some ⟨g, 0, none⟩ ∧ w.cell? ⟨g, i, none⟩ = some (.int .u32 ((X.tk.getD i 0).toNat : Int)) := by
  have hl := h.trow
  rw [hv] at hl
  obtain ⟨g, h1, h2⟩ := owns_cell hl (wvs_get X.tk i hi)
  refine ⟨g, h1, ?_⟩
  rw [h2]; simp [List.getD, List.getElem?_eq_getElem hi]
theorem Chn.In.topD {X : Chn} {w : World} (h : X.In w) (i : Nat) : X.lk.getD i 0 ≤ 9223372036854775807 := by
  by_cases hi : i < X.lk.length
  · simp [List.getD, List.getElem?_eq_getElem hi]; exact h.top _ (List.getElem_mem hi)
  · simp [List.getD, List.getElem?_eq_none (Nat.le_of_not_lt hi)]

set_option maxHeartbeats 1000000 in
theorem ask_any (X : Chn) (mb g : Nat) (xs : List UInt32) (w : World) (h : X.In w) (hs : X.st = 1) (hm : Mm w mb g xs) (hg : ¬ X.F g) (hmb : ¬ X.F mb) :
    Calls Try.prog 66 #[.pointer (some ⟨X.b, 0, none⟩), .pointer (some ⟨mb, 0, none⟩)] w (CallP X mb g (askP X.lk X.tk X.st xs) w) := by
  have hlt : X.tk.length < X.lk.length := by
    rcases h.wf with h1 | h1 | h1
    · omega
    · exact h1.2
    · omega
  obtain ⟨al, cl, hvl, hcl, hcl2⟩ := h.vlS
  obtain ⟨at', ct, hvt, hct, hct2⟩ := h.vtS
  obtain ⟨gl, rfl, cl1⟩ := h.lkAt hvl hlt
  have hp := h.topD X.tk.length
  have c0 := h.blk.cell (i := 0) rfl
  have c1 := h.blk.cell (i := 1) rfl
  rw [hvl] at c0
  rw [hvt] at c1
  have HT := take_any mb g xs (X.lk.getD X.tk.length 0) w.drew hm.drew hp
  unfold askP
  obtain ⟨p, hpp⟩ : ∃ p, p = X.lk.getD X.tk.length 0 := ⟨_, rfl⟩
  rw [← hpp] at HT cl1 ⊢
  obtain ⟨nt, hnt⟩ : ∃ nt, nt = X.tk.length := ⟨_, rfl⟩
  obtain ⟨nl, hnl⟩ : ∃ nl, nl = X.lk.length := ⟨_, rfl⟩
  have HL : Hid (X.In w ∧ Mm w mb g xs ∧ X.st = 1 ∧ nt = X.tk.length ∧ nl = X.lk.length ∧ nt < nl ∧ nl ≤ 4294967296 ∧ X.vt = .slice at' nt ct ∧ ¬ X.F g ∧ ¬ X.F mb) := ⟨h, hm, hs, hnt, hnl, by omega, by have := h.small; omega, by rw [hvt, hnt], hg, hmb⟩
  rw [← hnt] at c1 cl1
  rw [← hnl] at c0
  have hlt2 : (nt : Int) < nl := by omega
  have hlt3 : nt < nl := by omega
  have hS0 : w.cell? ⟨X.b, 0, none⟩ = some (.slice (some ⟨gl, 0, none⟩) nl cl) ∧ w.cell? ⟨X.b, 1, none⟩ = some (.slice at' nt ct) ∧ w.cell? ⟨gl, nt, none⟩ = some (.int .i64 p) := ⟨c0, c1, cl1⟩
  have hgl : ¬ (gl = g) := fun e => hg (.inr (.inl (by rw [hvl]; simp [Value.ownBlock, e])))
  have hbg : ¬ (X.b = g) := fun e => hg (.inl e.symm)
  have hE := tkE_cases xs p
  clear hlt hcl hcl2 hvl hvt hct hct2 hp hpp hnt hnl h hs hm hg hmb
  rcases hE with hE | ⟨hE, hX, -⟩
  · rw [hE] at HT
    rw [if_pos hE]
    have HT : Hid (Calls _ _ _ _ _) := HT
    obtain ⟨T, hT⟩ : ∃ T, T = tkT xs p := ⟨_, rfl⟩
    obtain ⟨Y, hY⟩ : ∃ Y, Y = tkX xs p := ⟨_, rfl⟩
    rw [← hT, ← hY] at HT ⊢
    clear hT hY hE
    go_enter Try.func66, Try.ntmps66
    go_wp2_with fail
    go_region_held3 (fun w' => w'.cell? ⟨X.b, 0, none⟩ = some (.slice (some ⟨gl, 0, none⟩) nl cl) ∧ w'.cell? ⟨X.b, 1, none⟩ = some (.slice at' nt ct) ∧ w'.cell? ⟨gl, nt, none⟩ = some (.int .i64 p)) (first | exact hS | exact hS0 | go_keep)
        (first | (go_at_call 25; refine HT.out.mono ?_; rintro e w3 ⟨rfl, hm, hk3⟩; have hS : w3.cell? ⟨X.b, 0, none⟩ = some (.slice (some ⟨gl, 0, none⟩) nl cl) ∧ w3.cell? ⟨X.b, 1, none⟩ = some (.slice at' nt ct) ∧ w3.cell? ⟨gl, nt, none⟩ = some (.int .i64 p) := ⟨cell_kept (w := w.drew) hS0.1 hk3 hbg, cell_kept (w := w.drew) hS0.2.1 hk3 hbg, cell_kept (w := w.drew) hS0.2.2 hk3 hgl⟩))
    have hX3 : X.In w3 := (HL.out.1.kept ((Keeps.refl (fun _ => False) w).drew) (fun _ _ e => e)).kept hk3 (fun x hx e => HL.out.2.2.2.2.2.2.2.2.1 (e ▸ hx))
    have htr := hX3.trow
    rw [HL.out.2.2.2.2.2.2.2.1, ← HL.out.2.2.2.1] at htr
    obtain ⟨v', W', hap, how, hgr⟩ := append_word T _ nt _ htr (by have := HL.out.2.2.2.2.2.2.1; omega)
    obtain ⟨a', c', rfl, hc', hc2'⟩ := owns_slice how
    have c0' := hS.1
    have c1' := hS.2.1
    have HA : Hid (∀ ty, _) := hap
    have hbW : Blk W' X.b [X.vl, X.vt, .int .i64 (X.st : Int)] 112 := hX3.blk.kept hgr.keeps (by rw [← HL.out.2.2.2.2.2.2.2.1]; exact fun e => hX3.nt e.symm)
    have cc1 := hbW.cell (i := 1) rfl
    have cc2 := hbW.cell (i := 2) rfl
    have zz1 := hbW.frozen 1
    have zz2 := hbW.frozen 2
    have HF : Hid (CallP X mb g { tk := X.tk ++ [T], st := 2, xs := Y, did := true, e := 0 } w (.returned (.tuple #[.bool true, .int .i64 0])) ((W'.setCell ⟨X.b, 1, none⟩ (.slice a' (nt + 1) c')).setCell ⟨X.b, 2, none⟩ (.int .i64 2))) := by
      have hK1 : Keeps (fun k => X.F k ∨ k = g) w w3 := ((Keeps.refl (fun _ => False) w).drew).none.trans hk3 fun _ _ e => .inr e
      have hK2 : Keeps (fun k => X.F k ∨ k = g) w W' := hK1.trans hgr.keeps fun k _ e => .inl (.inr (.inr (by rw [HL.out.2.2.2.2.2.2.2.1]; exact e.symm)))
      have hK3 := hK2.setCell ⟨X.b, 1, none⟩ (.slice a' (nt + 1) c') fun _ => .inl (.inl rfl)
      have hK4 := hK3.setCell ⟨X.b, 2, none⟩ (.int .i64 2) fun _ => .inl (.inl rfl)
      have hKB : Keeps (· = X.b) W' ((W'.setCell ⟨X.b, 1, none⟩ (.slice a' (nt + 1) c')).setCell ⟨X.b, 2, none⟩ (.int .i64 2)) := ((Keeps.refl (· = X.b) W').setCell _ _ fun _ => rfl).setCell _ _ fun _ => rfl
      have hfr : (Value.slice a' (nt + 1) c').ownBlock = X.vt.ownBlock ∨ ∃ k, (Value.slice a' (nt + 1) c').ownBlock = some k ∧ w.heap.size ≤ k := by
        rw [HL.out.2.2.2.2.2.2.2.1]
        rcases hgr.fresh with e | ⟨k, e, hk⟩
        · exact .inl e
        · exact .inr ⟨k, e, Nat.le_trans hK1.size hk⟩
      have hnb : (Value.slice a' (nt + 1) c').ownBlock ≠ some X.b := by
        rcases hfr with e | ⟨k, e, hk⟩
        · rw [e]; exact hX3.nt
        · rw [e]; intro e2; cases e2; have := HL.out.1.blk.lt; omega
      have hnl : ∀ k, X.vl.ownBlock = some k → (Value.slice a' (nt + 1) c').ownBlock ≠ some k := by
        intro k hk
        rcases hfr with e | ⟨k', e, hk'⟩
        · rw [e]; exact hX3.ne k hk
        · rw [e]; intro e2; cases e2; have := owns_lt HL.out.1.lrow hk; omega
      have hl : (X.tk ++ [T]).length = nt + 1 := by rw [HL.out.2.2.2.1]; simp
      have how2 : W'.ownsRow 0 26 1 (.slice a' (nt + 1) c') (X.tk ++ [T]).length (wvs (X.tk ++ [T])) := by
        rw [hl, wvs_append]; exact how
      refine ⟨rfl, _, ⟨?_, ?_, ?_, hX3.nl, hnb, hnl, hX3.small, hX3.top, ?_⟩, ?_, hK4, hfr⟩
      · exact (hbW.setCell 1 _).setCell 2 _
      · refine owns_kept (owns_kept hX3.lrow hgr.keeps ?_) hKB ?_
        · intro k hk e
          rw [← HL.out.2.2.2.2.2.2.2.1] at e
          exact hX3.ne k hk e.symm
        · intro k hk e
          rw [e] at hk; exact hX3.nl hk
      · refine owns_kept how2 hKB ?_
        intro k hk e
        rw [e] at hk; exact hnb hk
      · show StOk X.lk.length (X.tk ++ [T]).length 2
        rw [hl]
        have := HL.out.2.2.2.2.2.1
        have := HL.out.2.2.2.2.1
        exact .inr (.inr ⟨rfl, by omega, by omega⟩)
      · have hm1 : Mm W' mb g Y := hm.kept hgr.keeps (fun e => HL.out.2.2.2.2.2.2.2.2.2 (.inr (.inr (by rw [HL.out.2.2.2.2.2.2.2.1]; exact e.symm)))) (fun e => HL.out.2.2.2.2.2.2.2.2.1 (.inr (.inr (by rw [HL.out.2.2.2.2.2.2.2.1]; exact e.symm))))
        exact hm1.kept hKB (fun e => HL.out.2.2.2.2.2.2.2.2.2 (.inl e)) (fun e => HL.out.2.2.2.2.2.2.2.2.1 (.inl e))
    clear hap how hgr hX3 htr hm hk3 hS hbW hc' hc2' HT
    go_wp2_with (at_builtin; go_must (refine wpList_append_run rfl (.tmp 31) (.tmp 33) 28 28 rfl (.slice at' nt ct) (.slice (some ⟨w3.heap.size, 0, none⟩) 1 1) (.slice a' (nt + 1) c') W' rfl rfl HA.out ?_; refine Hid.out ?_))
    unfold Hid
    clear HA
    go_wp2
    go_ret2
    exact HF.out
  · rw [hX] at HT
    rw [if_neg hE]
    have HT : Hid (Calls _ _ _ _ _) := HT
    obtain ⟨T, hT⟩ : ∃ T : Nat, T = (tkT xs p).toNat := ⟨_, rfl⟩
    obtain ⟨E, hE2⟩ : ∃ Y, Y = tkE xs p := ⟨_, rfl⟩
    rw [← hE2] at HT hE ⊢
    rw [← hT] at HT
    have hE3 : ¬ ((E : Int) = 0) := by omega
    clear hT hX hE2
    go_enter Try.func66, Try.ntmps66
    go_wp2_with fail
    go_region_held3 (fun w' => w'.cell? ⟨X.b, 0, none⟩ = some (.slice (some ⟨gl, 0, none⟩) nl cl) ∧ w'.cell? ⟨X.b, 1, none⟩ = some (.slice at' nt ct) ∧ w'.cell? ⟨gl, nt, none⟩ = some (.int .i64 p)) (first | exact hS | exact hS0 | go_keep)
        (first | (go_at_call 25; refine HT.out.mono ?_; rintro e w3 ⟨rfl, hm, hk3⟩; have hS : w3.cell? ⟨X.b, 0, none⟩ = some (.slice (some ⟨gl, 0, none⟩) nl cl) ∧ w3.cell? ⟨X.b, 1, none⟩ = some (.slice at' nt ct) ∧ w3.cell? ⟨gl, nt, none⟩ = some (.int .i64 p) := ⟨cell_kept (w := w.drew) hS0.1 hk3 hbg, cell_kept (w := w.drew) hS0.2.1 hk3 hbg, cell_kept (w := w.drew) hS0.2.2 hk3 hgl⟩))
    have hX3 : X.In w3 := (HL.out.1.kept ((Keeps.refl (fun _ => False) w).drew) (fun _ _ e => e)).kept hk3 (fun x hx e => HL.out.2.2.2.2.2.2.2.2.1 (e ▸ hx))
    have HF : Hid (CallP X mb g { tk := X.tk, st := X.st, xs := xs, did := false, e := E } w (.returned (.tuple #[.bool false, .int .i64 (E : Int)])) w3) :=
      ⟨rfl, X.vt, hX3, hm, ((Keeps.refl (fun _ => False) w).drew).none.trans hk3 fun _ _ e => .inr e, .inl rfl⟩
    clear hX3 hm hk3 hS HT
    go_wp2
    go_ret2
    exact HF.out

end Go.Proofs.Ytadhldpeklkcmaa
