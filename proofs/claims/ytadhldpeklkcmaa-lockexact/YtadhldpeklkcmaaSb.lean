import Derived.Test.YtadhldpeklkcmaaSa
import Derived.Test.YtadhldpeklkcmaaM
namespace Go.Proofs.Ytadhldpeklkcmaa
open Go.RowKit
set_option linter.unusedVariables false

theorem Try.info105 : (Try.prog.info? 105).map (fun i => (i.zero, i.size, i.bytes)) = some (some (.agg #[.slice none 0 0, .slice none 0 0, .slice none 0 0, .slice none 0 0]), 4, 96) := by kernel_rfl

theorem append_kept {w : World} (a b : Option Addr) (n1 c1 n2 c2 : Nat) (v : Value) (n : Nat) (vs : List Value) (hown : w.ownsRow 0 105 4 v n vs) (hn : n ≤ 17179869184) :
    ∃ v' W', (∀ ty, (Builtin.append_ #[36, 36] ty #[v, .slice (some ⟨w.heap.size, 0, none⟩) 1 1]).run Try.prog (w.alloc (.cells #[.slice a n1 c1, .slice b n2 c2, .slice none 0 0, .slice none 0 0] 105)) = .ok v' W') ∧ W'.ownsRow 0 105 4 v' (n + 1) (vs ++ [.slice a n1 c1, .slice b n2 c2, .slice none 0 0, .slice none 0 0]) ∧ Grew w v W' v' := by
  obtain ⟨i0, hi, hz0, hz1, hz2⟩ := info_parts Try.info105
  obtain ⟨v', W', h1, h2, h3, h4⟩ := append_new 36 105 i0 (.agg #[.slice none 0 0, .slice none 0 0, .slice none 0 0, .slice none 0 0]) 4 96 Try.underlying36 hi hz0 hz1 hz2 rfl (by omega) v n vs hown #[.slice a n1 c1, .slice b n2 c2, .slice none 0 0, .slice none 0 0] rfl (by
    intro y hy
    simp at hy
    rcases hy with rfl | rfl | rfl <;> rfl) (by unfold maxLen; omega) (by omega)
  exact ⟨v', W', h1, h2, h3, h4⟩

/-- What keeping a list leaves. -/
def KeepP (w : World) (WB : Nat) (cells : List Value) (kv : Value) (n : Nat) (vs : List Value) (al : Option Addr) (cl : Nat) (ts : List UInt32) (e : Ending) (w' : World) : Prop :=
  e = .returned (.bool true) ∧ ∃ kv' wa wc, Blk w' WB (cells.set 5 kv') 41 ∧ w'.ownsRow 0 105 4 kv' (n + 1) (vs ++ [.slice al ts.length cl, .slice wa ts.length wc, .slice none 0 0, .slice none 0 0]) ∧ w'.ownsRow 0 26 1 (.slice wa ts.length wc) ts.length (wvs ts) ∧
    (∀ k, (Value.slice wa ts.length wc).ownBlock = some k → w.heap.size ≤ k ∧ kv'.ownBlock ≠ some k) ∧ (kv'.ownBlock = kv.ownBlock ∨ ∃ k, kv'.ownBlock = some k ∧ w.heap.size ≤ k) ∧ Keeps (fun k => k = WB ∨ some k = kv.ownBlock) w w'

set_option maxHeartbeats 2000000 in
theorem keep_any (WB : Nat) (cells : List Value) (kv : Value) (n : Nat) (vs : List Value) (al aw : Option Addr) (cl cw : Nat) (ts : List UInt32) (w : World) (hB : Blk w WB cells 41) (h5 : cells[5]? = some kv) (hk : w.ownsRow 0 105 4 kv n vs) (hn : n ≤ 17179869184) (hkb : kv.ownBlock ≠ some WB)
    (hl : SegW w al ts) (hw : SegW w aw ts) (hln : ∀ x, al = some x → ts ≠ [] → x.block ≠ WB ∧ kv.ownBlock ≠ some x.block) (hwn : ∀ x, aw = some x → ts ≠ [] → x.block ≠ WB ∧ kv.ownBlock ≠ some x.block) (hts : ts.length ≤ 4294967296) :
    Calls Try.prog 50 #[.pointer (some ⟨WB, 5, none⟩), .slice al ts.length cl, .slice aw ts.length cw] w (KeepP w WB cells kv n vs al cl ts) := by
  obtain ⟨v1, W1, hap1, v1', hv, ho1, hf1, hk1⟩ := nil_app_words aw cw ts w hw hts
  cases hv
  obtain ⟨wa, wc, rfl, -, -⟩ := owns_slice ho1
  have hB1 := hB.kept hk1 (fun e => e)
  have hkr1 := owns_kept hk hk1 (fun _ _ e => e)
  obtain ⟨kv', W2, hap2, ho2, hg2⟩ := append_kept al wa ts.length cl ts.length wc kv n vs hkr1 hn
  obtain ⟨ka, kc, hkv, -, -⟩ := owns_slice hkr1
  obtain ⟨ka', kc', hkv', -, -⟩ := owns_slice ho2
  have hB2 : Blk W2 WB cells 41 := hB1.kept hg2.keeps (fun e => hkb e.symm)
  have c5 := hB1.cell h5
  rw [hkv] at c5
  have d5 := hB2.cell h5
  have z5 := hB2.frozen 5
  have hfr1 : ∀ k, (Value.slice wa ts.length wc).ownBlock = some k → w.heap.size ≤ k := by
    intro k hk'
    rcases hf1 with h | ⟨k', h, h2⟩
    · rw [h] at hk'; cases hk'
    · rw [h] at hk'; cases hk'; exact h2
  have hdis : ∀ k, (Value.slice wa ts.length wc).ownBlock = some k → kv'.ownBlock ≠ some k := by
    intro k hk' e
    have h1 := owns_lt ho1 hk'
    have h2 := hfr1 k hk'
    rcases hg2.fresh with e2 | ⟨k', e2, h3⟩
    · rw [e2] at e
      have := owns_lt hk e
      omega
    · rw [e2] at e; cases e; omega
  obtain ⟨W3, hW3⟩ : ∃ W3, W3 = W2.setCell ⟨WB, 5, none⟩ kv' := ⟨_, rfl⟩
  have hKB : Keeps (· = WB) W2 W3 := by rw [hW3]; exact (Keeps.refl _ _).setCell _ _ fun _ => rfl
  have hK12 : Keeps (fun k => k = WB ∨ some k = kv.ownBlock) w W2 := hk1.none.trans hg2.keeps fun _ _ e => .inr e
  have hK3 : Keeps (fun k => k = WB ∨ some k = kv.ownBlock) w W3 := hK12.trans hKB fun _ _ e => .inl e
  have hwb : ∀ k, (Value.slice wa ts.length wc).ownBlock = some k → k ≠ WB := by
    intro k hk' e
    have := hfr1 k hk'
    have := hB.lt
    omega
  have hkwb : kv'.ownBlock ≠ some WB := by
    rcases hg2.fresh with e2 | ⟨k', e2, h3⟩
    · rw [e2]; exact hkb
    · rw [e2]; intro e; cases e; have := hB1.lt; omega
  have HF : Hid (∀ w', Keeps (fun _ => False) W3 w' → KeepP w WB cells kv n vs al cl ts (.returned (.bool true)) w') := by
    intro w' hk'
    refine ⟨rfl, kv', wa, wc, ?_, ?_, ?_, fun k hk'' => ⟨hfr1 k hk'', hdis k hk''⟩, ?_, hK3.trans hk' fun _ _ e => e.elim⟩
    · have : Blk W3 WB (cells.set 5 kv') 41 := by rw [hW3]; exact hB2.setCell 5 _
      exact this.kept hk' (fun e => e)
    · exact owns_kept (owns_kept ho2 hKB fun k hk'' e => by rw [e] at hk''; exact hkwb hk'') hk' fun _ _ e => e
    · refine owns_kept (owns_kept (owns_kept ho1 hg2.keeps ?_) hKB ?_) hk' fun _ _ e => e
      · intro k hk'' e
        have h2 := hfr1 k hk''
        have := owns_lt hk e.symm
        omega
      · intro k hk'' e; exact hwb k hk'' e
    · rcases hg2.fresh with e2 | ⟨k', e2, h3⟩
      · exact .inl e2
      · exact .inr ⟨k', e2, Nat.le_trans hk1.size h3⟩
  have hS : ∀ {a : Option Addr}, SegW w a ts → (∀ x, a = some x → ts ≠ [] → x.block ≠ WB ∧ kv.ownBlock ≠ some x.block) → SegW W3 a ts := by
    intro a h hn'
    by_cases h0 : ts = []
    · exact .inl h0
    · exact h.kept hK3 fun x hx e => by
        rcases e with e | e
        · exact (hn' x hx h0).1 e
        · exact (hn' x hx h0).2 e.symm
  have HS : Hid (Calls _ _ _ _ _) := sameWords_any al aw ts cl cw W3 (hS hl hln) (hS hw hwn) hts
  rw [hkv] at hap2
  rw [hkv'] at hap2 hW3
  obtain ⟨nt, hnt⟩ : ∃ nt, nt = ts.length := ⟨_, rfl⟩
  rw [← hnt] at hap1 hap2 HS ⊢
  have HA1 : Hid (∀ ty, _) := hap1
  have HA2 : Hid (∀ ty, _) := hap2
  have HW3 : Hid (W3 = W2.setCell ⟨WB, 5, none⟩ (.slice ka' (n + 1) kc')) := hW3
  clear hB hk hl hw hln hwn hap1 hap2 ho1 hf1 hk1 hB1 hkr1 ho2 hg2 hkv hkv' hB2 hfr1 hdis hW3 hKB hK12 hK3 hwb hkwb hS hnt
  go_enter Try.func50, Try.ntmps50
  go_wp2_with (at_builtin; go_must (refine wpList_append_run rfl (.tmp 8) (.tmp 9) 28 28 rfl (.slice none 0 0) (.slice aw nt cw) (.slice wa nt wc) W1 rfl rfl HA1.out ?_; refine Hid.out ?_))
  unfold Hid
  clear HA1
  go_wp2_with (at_builtin; go_must (refine wpList_append_run rfl (.tmp 15) (.tmp 19) 36 36 rfl (.slice ka n kc) (.slice (some ⟨W1.heap.size, 0, none⟩) 1 1) (.slice ka' (n + 1) kc') W2 rfl rfl HA2.out ?_; refine Hid.out ?_))
  unfold Hid
  clear HA2 c5
  go_wp2_with fail
  rw [← HW3.out]
  clear HW3
  refine HS.out.mono ?_
  rintro e w2 ⟨rfl, hk2⟩
  have HF' := HF.out w2 hk2
  clear HS HF
  go_wp2
  go_ret
  exact HF'

end Go.Proofs.Ytadhldpeklkcmaa
