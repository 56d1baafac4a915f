import Derived.Test.YtadhldpeklkcmaaSj
import Derived.Test.YtadhldpeklkcmaaR
import Derived.Test.YtadhldpeklkcmaaRf
namespace Go.Proofs.Ytadhldpeklkcmaa
open Go.RowKit
set_option linter.unusedVariables false
set_option linter.unusedSimpArgs false
set_option maxRecDepth 10000

theorem own_some {a : Option Addr} {n c : Nat} {x : Addr} (h : a = some x) : (Value.slice a n c).ownBlock = some x.block := by rw [h]; rfl

theorem keep_step (p : Pst) (N : Nat) (w : World) (al aw : Option Addr) (cl cw : Nat) (ts : List UInt32) (hok : p.Ok N w) (hl : w.ownsRow 0 26 1 (.slice al ts.length cl) ts.length (wvs ts)) (hw : SegW w aw ts) (hfr : ∀ k, (Value.slice al ts.length cl).ownBlock = some k → N ≤ k ∧ ∀ c, ¬ p.F c k) (hwn : ∀ x, aw = some x → ts ≠ [] → ∀ c, ¬ p.F c x.block)
    (hts : ts.length ≤ 4294967296) (hn : p.es.length ≤ 17179869184) :
    Calls Try.prog 50 #[.pointer (some ⟨p.WB, 5, none⟩), .slice al ts.length cl, .slice aw ts.length cw] w fun e w' => e = .returned (.bool true) ∧ ∃ kv' wa wc, Pst.Ok { p with kv := kv', es := p.es ++ [⟨al, cl, ts, wa, wc⟩] } N w' ∧ Keeps (fun k => k = p.WB ∨ some k = p.kv.ownBlock) w w' ∧
      (∀ k, (Value.slice wa ts.length wc).ownBlock = some k → w.heap.size ≤ k) ∧ (kv'.ownBlock = p.kv.ownBlock ∨ ∃ k, kv'.ownBlock = some k ∧ w.heap.size ≤ k) := by
  have hkw : p.kv.ownBlock ≠ some p.WB := fun e => by have := hok.sep.one 6 0 _ (Pst.f6 (.inl e)) (Pst.f0 rfl); omega
  refine (keep_any p.WB p.cells p.kv p.es.length (evs p.es) al aw cl cw ts w hok.blk rfl hok.bk.row hn hkw (owns_segW' hl) hw ?_ ?_ hts).mono ?_
  · intro x hx _
    have := (hfr _ (own_some hx)).2
    exact ⟨fun e => this 0 (Pst.f0 e), fun e => this 6 (Pst.f6 (.inl e))⟩
  · intro x hx h0
    have := hwn x hx h0
    exact ⟨fun e => this 0 (Pst.f0 e), fun e => this 6 (Pst.f6 (.inl e))⟩
  · rintro e w' ⟨rfl, kv', wa, wc, hB, hr, hwr, hwf, hkf, hK⟩
    exact ⟨rfl, kv', wa, wc, hok.book hl hts hfr hB hr hwr hwf hkf hK, hK, fun k hk => (hwf k hk).1, hkf⟩

/-- The same list told twice, and once by the document: both are kept. -/
theorem two_keeps (p : Pst) (N : Nat) (w0 w5 w6 w7 : World) (a1 a2 a3 : Option Addr) (c1 c2 c3 : Nat) (ts : List UInt32) (hok : p.Ok N w0) (h1 : w5.ownsRow 0 26 1 (.slice a1 ts.length c1) ts.length (wvs ts)) (f1 : (Value.slice a1 ts.length c1).ownBlock = none ∨ ∃ k, (Value.slice a1 ts.length c1).ownBlock = some k ∧ w0.heap.size ≤ k) (k1 : Keeps (fun _ => False) w0 w5)
    (h2 : w6.ownsRow 0 26 1 (.slice a2 ts.length c2) ts.length (wvs ts)) (f2 : (Value.slice a2 ts.length c2).ownBlock = none ∨ ∃ k, (Value.slice a2 ts.length c2).ownBlock = some k ∧ w5.heap.size ≤ k) (k2 : Keeps (fun _ => False) w5 w6)
    (h3 : w7.ownsRow 0 26 1 (.slice a3 ts.length c3) ts.length (wvs ts)) (f3 : (Value.slice a3 ts.length c3).ownBlock = none ∨ ∃ k, (Value.slice a3 ts.length c3).ownBlock = some k ∧ w6.heap.size ≤ k) (k3 : Keeps (fun _ => False) w6 w7) (hts : ts.length ≤ 4294967296) (hn : p.es.length ≤ 17179869183) :
    Calls Try.prog 50 #[.pointer (some ⟨p.WB, 5, none⟩), .slice a1 ts.length c1, .slice a3 ts.length c3] w7 fun e w8 => e = .returned (.bool true) ∧ Calls Try.prog 50 #[.pointer (some ⟨p.WB, 5, none⟩), .slice a2 ts.length c2, .slice a3 ts.length c3] w8 fun e w9 => e = .returned (.bool true) ∧
      ∃ kv es, Pst.Ok { p with kv := kv, es := es } N w9 ∧ es.length = p.es.length + 2 ∧ Keeps (fun k => N ≤ k) w7 w9 := by
  have hge : ∀ {v : Value} {wx : World}, (v.ownBlock = none ∨ ∃ k, v.ownBlock = some k ∧ wx.heap.size ≤ k) → ∀ k, v.ownBlock = some k → wx.heap.size ≤ k := by
    intro v wx h k hk
    rcases h with e | ⟨b, e, hb⟩
    · rw [e] at hk; cases hk
    · rw [e] at hk; cases hk; exact hb
  have s1 := k1.size
  have s2 := k2.size
  have s3 := k3.size
  have hFl : ∀ c k, p.F c k → k < w0.heap.size := fun c k hk => hok.sep.lt c k hk
  have hN := hok.low
  have k17 : Keeps (fun _ => False) w5 w7 := k2.trans k3 fun _ _ e => e
  have hok7 := hok.same (k1.trans k17 fun _ _ e => e)
  have seg3 := owns_segW' h3
  have h1' := owns_kept h1 k17 fun _ _ e => e
  have h2' := owns_kept h2 k3 fun _ _ e => e
  refine (keep_step p N w7 a1 a3 c1 c3 ts hok7 h1' seg3 ?_ ?_ hts (by omega)).mono ?_
  · intro k hk
    have := hge f1 k hk
    exact ⟨by omega, fun c hc => by have := hFl c k hc; omega⟩
  · intro x hx _ c hc
    have := hge f3 _ (own_some hx)
    have := hFl c _ hc
    omega
  · rintro e w8 ⟨rfl, kv', wa, wc, hok8, hK8, hwa, hkv⟩
    refine ⟨rfl, ?_⟩
    have hS8 : ∀ k, (k = p.WB ∨ some k = p.kv.ownBlock) → k < w0.heap.size := by
      rintro k (e | e)
      · exact hFl 0 k (Pst.f0 e)
      · exact hFl 6 k (Pst.f6 (.inl e.symm))
    have h2'' := owns_kept h2' hK8 fun k hk e => by have := hge f2 k hk; have := hS8 k e; omega
    have seg3' : SegW w8 a3 ts := seg3.kept hK8 fun x hx e => by have := hge f3 _ (own_some hx); have := hS8 _ e; omega
    have hF8 : ∀ c k, Pst.F { p with kv := kv', es := p.es ++ [⟨a1, c1, ts, wa, wc⟩] } c k → k < w0.heap.size ∨ w7.heap.size ≤ k ∨ (Value.slice a1 ts.length c1).ownBlock = some k := by
      rintro c k (e | e | e | e | e | e | ⟨e, hk⟩ | e | e)
      · exact .inl (hFl c k (.inl e))
      · exact .inl (hFl c k (.inr (.inl e)))
      · exact .inl (hFl c k (.inr (.inr (.inl e))))
      · exact .inl (hFl c k (.inr (.inr (.inr (.inl e)))))
      · exact .inl (hFl c k (.inr (.inr (.inr (.inr (.inl e))))))
      · exact .inl (hFl c k (.inr (.inr (.inr (.inr (.inr (.inl e)))))))
      · rcases hk with hk | ⟨i, f, hf, hk⟩
        · have hk : kv'.ownBlock = some k := hk
          rcases hkv with e2 | ⟨b, e2, hb⟩
          · exact .inl (hFl 6 k (Pst.f6 (.inl (by rw [← e2]; exact hk))))
          · rw [e2] at hk; cases hk; exact .inr (.inl hb)
        · rcases eget_app hf with ⟨-, rfl⟩ | ⟨-, hf⟩
          · rcases hk with hk | hk
            · exact .inr (.inr hk)
            · exact .inr (.inl (hwa k hk))
          · exact .inl (hFl 6 k (Pst.f6 (.inr ⟨i, f, hf, hk⟩)))
      · exact .inl (hFl c k (.inr (.inr (.inr (.inr (.inr (.inr (.inr (.inl e)))))))))
      · exact .inl (hFl c k (.inr (.inr (.inr (.inr (.inr (.inr (.inr (.inr e)))))))))
    have h1lt : ∀ k, (Value.slice a1 ts.length c1).ownBlock = some k → k < w5.heap.size := fun k hk => owns_lt h1 hk
    have h2lt : ∀ k, (Value.slice a2 ts.length c2).ownBlock = some k → k < w6.heap.size := fun k hk => owns_lt h2 hk
    have h3lt : ∀ k, (Value.slice a3 ts.length c3).ownBlock = some k → k < w7.heap.size := fun k hk => owns_lt h3 hk
    refine (keep_step { p with kv := kv', es := p.es ++ [⟨a1, c1, ts, wa, wc⟩] } N w8 a2 a3 c2 c3 ts hok8 h2'' seg3' ?_ ?_ hts (by show (p.es ++ [_]).length ≤ _; simp; omega)).mono ?_
    · intro k hk
      have h5 := hge f2 k hk
      have h6 := h2lt k hk
      refine ⟨by omega, fun c hc => ?_⟩
      rcases hF8 c k hc with e | e | e
      · omega
      · omega
      · have := h1lt k e; omega
    · intro x hx _ c hc
      have h5 := hge f3 _ (own_some hx)
      have h6 := h3lt _ (own_some hx)
      rcases hF8 c _ hc with e | e | e
      · omega
      · omega
      · have := h1lt _ e; omega
    · rintro e w9 ⟨rfl, kv2, wa2, wc2, hok9, hK9, -, -⟩
      refine ⟨rfl, kv2, _, hok9, by simp, (hK8.mono fun k _ e => ?_).trans hK9 fun k hk e => ?_⟩
      · rcases e with e | e
        · exact hok.geF (Pst.f0 e)
        · exact hok.geF (Pst.f6 (.inl e.symm))
      · rcases e with e | e
        · exact hok.geF (Pst.f0 e)
        · exact hok8.geF (c := 6) (Pst.f6 (.inl e.symm))
end Go.Proofs.Ytadhldpeklkcmaa
