import Derived.Test.YtadhldpeklkcmaaH
import Derived.Deep.RegionHeld3
namespace Go.Proofs.Ytadhldpeklkcmaa
open Go.RowKit
set_option linter.unusedVariables false

theorem mnB_ok {xs : List UInt32} {p : Int} {t : UInt32} (h : mnB xs p t = true) : okE xs p = 0 := by
  unfold mnB at h
  unfold okE
  split at h
  · rename_i hk; rw [if_pos hk]
  · cases h

theorem okE_cases (xs : List UInt32) (p : Int) : okE xs p = 0 ∨ okE xs p = 51 := by unfold okE; split <;> simp

set_option maxHeartbeats 1000000 in
theorem look_any (X : Chn) (mb g : Nat) (xs : List UInt32) (w : World) (h : X.In w) (hs : X.st = 2) (hm : Mm w mb g xs) (hg : ¬ X.F g) (hmb : ¬ X.F mb) :
    Calls Try.prog 67 #[.pointer (some ⟨X.b, 0, none⟩), .pointer (some ⟨mb, 0, none⟩)] w (CallP X mb g (lookP X.lk X.tk X.st xs) w) := by
  have hlt : 0 < X.tk.length ∧ X.tk.length ≤ X.lk.length := by
    rcases h.wf with h1 | h1 | h1
    · omega
    · omega
    · exact h1.2
  obtain ⟨n, hn⟩ : ∃ n, X.tk.length = n + 1 := ⟨X.tk.length - 1, by omega⟩
  obtain ⟨al, cl, hvl, hcl, hcl2⟩ := h.vlS
  obtain ⟨at', ct, hvt, hct, hct2⟩ := h.vtS
  obtain ⟨gl, rfl, cl1⟩ := h.lkAt hvl (i := n) (by omega)
  obtain ⟨gt, rfl, ct1⟩ := h.tkAt hvt (i := n) (by omega)
  have hp := h.topD n
  have c0 := h.blk.cell (i := 0) rfl
  have c1 := h.blk.cell (i := 1) rfl
  have c2 := h.blk.cell (i := 2) rfl
  have z2 := h.blk.frozen 2
  rw [hvl] at c0
  rw [hvt] at c1
  unfold lookP
  rw [show X.tk.length - 1 = n from by omega]
  have HT := fun w1 (hm1 : Mm w1 mb g xs) => mine_any mb g xs (X.lk.getD n 0) (X.tk.getD n 0) w1 hm1 hp
  obtain ⟨p, hpp⟩ : ∃ p, p = X.lk.getD n 0 := ⟨_, rfl⟩
  obtain ⟨t, htt⟩ : ∃ t, t = X.tk.getD n 0 := ⟨_, rfl⟩
  rw [← hpp] at HT cl1 ⊢
  rw [← htt] at HT ct1 ⊢
  obtain ⟨nl, hnl⟩ : ∃ nl, nl = X.lk.length := ⟨_, rfl⟩
  obtain ⟨tt, ht2⟩ : ∃ tt : Nat, tt = t.toNat := ⟨_, rfl⟩
  rw [← ht2] at HT ct1
  have HS := fun w1 (h1 : X.In w1) => settled_any X.b nl cl (n + 1) ct (some ⟨gl, 0, none⟩) (some ⟨gt, 0, none⟩) (.int .i64 (X.st : Int)) w1 (by have := h1.blk; rw [hvl, hvt, hn, ← hnl] at this; exact this)
  have hset : (if n + 1 = nl then (0 : Int) else 1) = ((settledN X.lk X.tk : Nat) : Int) := by unfold settledN; rw [hn, hnl]; split <;> rfl
  rw [hset] at HS
  obtain ⟨sn, hsn⟩ : ∃ sn, sn = settledN X.lk X.tk := ⟨_, rfl⟩
  have hst : StOk X.lk.length X.tk.length sn := by
    rw [hsn]; unfold settledN; split
    · exact .inl ⟨rfl, by assumption⟩
    · exact .inr (.inl ⟨rfl, by omega⟩)
  rw [← hsn] at HS ⊢
  have HL : Hid (X.In w ∧ Mm w mb g xs ∧ X.st = 2 ∧ ¬ X.F g ∧ ¬ X.F mb ∧ X.tk.length = n + 1 ∧ nl = X.lk.length ∧ n < nl ∧ StOk X.lk.length X.tk.length sn) := ⟨h, hm, hs, hg, hmb, hn, hnl, by omega, hst⟩
  rw [hn] at c1
  rw [← hnl] at c0
  rw [hs] at c2
  have h1 : (n : Int) < nl := by omega
  have h2 : (nl : Int) ≤ 4294967296 := by have := h.small; omega
  obtain ⟨nt, hnt⟩ : ∃ nt, nt = n + 1 := ⟨_, rfl⟩
  rw [← hnt] at c1
  have h3 : IntKind.i64.wrap ((nt : Int) - 1) = n := by rw [IntKind.wrap_i64]; omega
  have h4 : (n : Int) < nt := by omega
  have HT : Hid (∀ w1, Mm w1 mb g xs → Calls _ _ _ _ _) := HT
  have HS : Hid (∀ w1, X.In w1 → Calls _ _ _ _ _) := HS
  have hB := mnB_ok (xs := xs) (p := p) (t := t)
  obtain ⟨B, hBB⟩ : ∃ B, B = mnB xs p t := ⟨_, rfl⟩
  rw [← hBB] at HT hB ⊢
  clear hBB
  have hok := okE_cases xs p
  obtain ⟨E, hEE⟩ : ∃ E, E = okE xs p := ⟨_, rfl⟩
  rw [← hEE] at HT hB hok ⊢
  clear hst hs hsn hnt hEE hvl hvt hcl hcl2 hct hct2 hp hpp htt hnl ht2 hset hn hlt hg hmb hm h
  cases B with
  | true =>
    obtain rfl := hB rfl
    clear hok hB
    rw [if_pos rfl]
    have hS0 : w.cell? ⟨X.b, 0, none⟩ = some (.slice (some ⟨gl, 0, none⟩) nl cl) ∧ w.cell? ⟨X.b, 1, none⟩ = some (.slice (some ⟨gt, 0, none⟩) nt ct) ∧ w.cell? ⟨gl, n, none⟩ = some (.int .i64 p) ∧ w.cell? ⟨gt, n, none⟩ = some (.int .u32 (tt : Int)) := ⟨c0, c1, cl1, ct1⟩
    go_enter Try.func67, Try.ntmps67
    go_wp2_with fail
    go_region_held3 (fun w' => w'.cell? ⟨X.b, 0, none⟩ = some (.slice (some ⟨gl, 0, none⟩) nl cl) ∧ w'.cell? ⟨X.b, 1, none⟩ = some (.slice (some ⟨gt, 0, none⟩) nt ct) ∧ w'.cell? ⟨gl, n, none⟩ = some (.int .i64 p) ∧ w'.cell? ⟨gt, n, none⟩ = some (.int .u32 (tt : Int))) (first | exact hS | exact hS0 | go_keep)
      (first | (go_at_call 32; refine (HT.out _ HL.out.2.1.drew).mono ?_; rintro e w3 ⟨rfl, hk3⟩; have hS : w3.cell? ⟨X.b, 0, none⟩ = some (.slice (some ⟨gl, 0, none⟩) nl cl) ∧ w3.cell? ⟨X.b, 1, none⟩ = some (.slice (some ⟨gt, 0, none⟩) nt ct) ∧ w3.cell? ⟨gl, n, none⟩ = some (.int .i64 p) ∧ w3.cell? ⟨gt, n, none⟩ = some (.int .u32 (tt : Int)) := ⟨cell_kept (w := w.drew) hS0.1 hk3 (fun e => e), cell_kept (w := w.drew) hS0.2.1 hk3 (fun e => e), cell_kept (w := w.drew) hS0.2.2.1 hk3 (fun e => e), cell_kept (w := w.drew) hS0.2.2.2 hk3 (fun e => e)⟩))
    have hK3 : Keeps (fun _ => False) w w3 := ((Keeps.refl (fun _ => False) w).drew).trans hk3 fun _ _ e => e
    have hX3 : X.In w3 := HL.out.1.grown hK3
    have hM3 : Mm w3 mb g xs := HL.out.2.1.grown hK3
    have HS3 : Hid (Calls _ _ _ _ _) := HS.out w3 hX3
    have H3 : Hid (Keeps (fun _ => False) w w3 ∧ X.In w3 ∧ Mm w3 mb g xs) := ⟨hK3, hX3, hM3⟩
    clear hK3 hX3 hM3 hk3 HT HS hS0 hS
    go_wp2_with fail
    refine HS3.out.mono ?_
    rintro e w4 ⟨rfl, hk4⟩
    have hX4 : X.In w4 := H3.out.2.1.grown hk4
    have c24 := hX4.blk.cell (i := 2) rfl
    have z24 := hX4.blk.frozen 2
    have HF : Hid (CallP X mb g { tk := X.tk, st := sn, xs := xs, did := true, e := 0 } w (.returned (.tuple #[.bool true, .int .i64 0])) (w4.setCell ⟨X.b, 2, none⟩ (.int .i64 (sn : Int)))) := by
      have hKB : Keeps (· = X.b) w4 (w4.setCell ⟨X.b, 2, none⟩ (.int .i64 (sn : Int))) := (Keeps.refl _ _).setCell _ _ fun _ => rfl
      refine ⟨rfl, X.vt, ⟨hX4.blk.setCell 2 _, owns_kept hX4.lrow hKB ?_, owns_kept hX4.trow hKB ?_, hX4.nl, hX4.nt, hX4.ne, hX4.small, hX4.top, HL.out.2.2.2.2.2.2.2.2⟩, (H3.out.2.2.grown hk4).kept hKB (fun e => HL.out.2.2.2.2.1 (.inl e)) (fun e => HL.out.2.2.2.1 (.inl e)), ?_, .inl rfl⟩
      · intro k hk e; rw [e] at hk; exact hX4.nl hk
      · intro k hk e; rw [e] at hk; exact hX4.nt hk
      · exact ((H3.out.1.trans hk4 fun _ _ e => e).none (S := fun k => X.F k ∨ k = g)).trans hKB fun _ _ e => .inl (.inl e)
    clear hX4 hk4
    go_wp2
    go_ret2
    exact HF.out
  | false =>
    rw [if_neg (by simp)]
    have hS0 : w.cell? ⟨X.b, 0, none⟩ = some (.slice (some ⟨gl, 0, none⟩) nl cl) ∧ w.cell? ⟨X.b, 1, none⟩ = some (.slice (some ⟨gt, 0, none⟩) nt ct) ∧ w.cell? ⟨gl, n, none⟩ = some (.int .i64 p) ∧ w.cell? ⟨gt, n, none⟩ = some (.int .u32 (tt : Int)) := ⟨c0, c1, cl1, ct1⟩
    go_enter Try.func67, Try.ntmps67
    go_wp2_with fail
    go_region_held3 (fun w' => w'.cell? ⟨X.b, 0, none⟩ = some (.slice (some ⟨gl, 0, none⟩) nl cl) ∧ w'.cell? ⟨X.b, 1, none⟩ = some (.slice (some ⟨gt, 0, none⟩) nt ct) ∧ w'.cell? ⟨gl, n, none⟩ = some (.int .i64 p) ∧ w'.cell? ⟨gt, n, none⟩ = some (.int .u32 (tt : Int))) (first | exact hS | exact hS0 | go_keep)
      (first | (go_at_call 32; refine (HT.out _ HL.out.2.1.drew).mono ?_; rintro e w3 ⟨rfl, hk3⟩; have hS : w3.cell? ⟨X.b, 0, none⟩ = some (.slice (some ⟨gl, 0, none⟩) nl cl) ∧ w3.cell? ⟨X.b, 1, none⟩ = some (.slice (some ⟨gt, 0, none⟩) nt ct) ∧ w3.cell? ⟨gl, n, none⟩ = some (.int .i64 p) ∧ w3.cell? ⟨gt, n, none⟩ = some (.int .u32 (tt : Int)) := ⟨cell_kept (w := w.drew) hS0.1 hk3 (fun e => e), cell_kept (w := w.drew) hS0.2.1 hk3 (fun e => e), cell_kept (w := w.drew) hS0.2.2.1 hk3 (fun e => e), cell_kept (w := w.drew) hS0.2.2.2 hk3 (fun e => e)⟩))
    have hK3 : Keeps (fun _ => False) w w3 := ((Keeps.refl (fun _ => False) w).drew).trans hk3 fun _ _ e => e
    have hX3 : X.In w3 := HL.out.1.grown hK3
    have hM3 : Mm w3 mb g xs := HL.out.2.1.grown hK3
    have HF : Hid (CallP X mb g { tk := X.tk, st := X.st, xs := xs, did := false, e := E } w (.returned (.tuple #[.bool false, .int .i64 (E : Int)])) w3) :=
      ⟨rfl, X.vt, hX3, hM3, hK3.none, .inl rfl⟩
    clear hX3 hM3 hk3 hS HT
    rcases hok with rfl | rfl
    · go_wp2
      go_ret2
      exact HF.out
    · go_wp2
      go_ret2
      exact HF.out

end Go.Proofs.Ytadhldpeklkcmaa
