import Derived.Test.YtohojpacijnnaaaDoorTf
namespace Go.Proofs.YtohojpacijnnaaaDoor
open Go.RowKit Go.Shelf
set_option linter.unusedVariables false
set_option linter.unusedSimpArgs false
set_option maxRecDepth 6000

set_option maxHeartbeats 2000000 in
theorem byte_any (b : Nat) (p v : Value) (xs : List UInt8) (c : UInt8) (w : World) (h : Bd w b p v xs) (hm : xs.length + 1 ≤ 140737488355328) :
    Calls Tryd.prog 13 #[.pointer (some ⟨b, 0, none⟩), .int .u8 (c.toNat : Int)] w fun e w' => e = .returned .nilIface ∧ Wrote w b v (xs ++ [c]) w' := by
  have HC := Hid.mkq (check_any b p v xs w h)
  have HB : Hid (xs.length + 1 ≤ 140737488355328 ∧ b < w.heap.size) := ⟨hm, (Array.getElem?_eq_some_iff.1 h.lies).1⟩
  obtain ⟨C, hCc⟩ : ∃ C, C = (c.toNat : Int) := ⟨_, rfl⟩
  have HCc := Hid.mkq hCc
  rw [← hCc]
  clear h hm hCc
  go_enter Tryd.func13, Tryd.ntmps13
  go_wp2_with fail
  refine HC.out.mono ?_
  rintro e w1 ⟨rfl, hB1, hK1⟩
  obtain ⟨i0, hi, hz0, hz1, hz2⟩ := info_parts info5
  obtain ⟨v', W', hr, ho, hl, hK⟩ := append_new 28 5 i0 (.int .u8 0) 1 1 Tryd.underlying28 hi hz0 hz1 hz2 rfl (by omega) v xs.length (bvs xs) hB1.own #[.int .u8 C] rfl (by intro u hu; simp at hu; subst hu; rfl) (by have := HB.out.1; unfold maxLen; omega) (by have := HB.out.1; omega)
  have HR := Hid.mkq hr
  have hBW : Blk W' b [.pointer (some ⟨b, 0, none⟩), v] 32 := hB1.blk.kept hK fun e => hB1.ne e.symm
  have HE : Hid (Wrote w b v (xs ++ [c]) (W'.setCell ⟨b, 1, none⟩ v')) := by
    have hne : v'.ownBlock ≠ some b := by
      rcases hl with e | ⟨k, e, hk⟩
      · rw [e]; exact hB1.ne
      · rw [e]
        intro e2
        cases e2
        have := (Array.getElem?_eq_some_iff.1 hB1.lies).1
        omega
    have hk2 : Keeps (fun k => k = b) W' (W'.setCell ⟨b, 1, none⟩ v') := (Keeps.refl _ W').setCell _ _ fun _ => rfl
    refine ⟨⟨v', ⟨hBW.setCell 1 v', ?_, hne, .inr rfl⟩, ?_⟩, ?_⟩
    · have := owns_kept ho hk2 fun k e1 e2 => hne (by rw [e1, e2])
      have e : (xs ++ [c]).length = xs.length + 1 := by simp
      have e2 : bvs (xs ++ [c]) = bvs xs ++ (#[Value.int .u8 C]).toList := by rw [bvs_append, HCc.out]; rfl
      rw [e, e2]; exact this
    · rcases hl with e | ⟨k, e, hk⟩
      · exact .inl e
      · exact .inr ⟨k, e, Nat.le_trans hK1.size hk⟩
    · exact ((hK1.mono fun _ _ h => .inl h).trans (hK.mono fun _ _ h => .inr h) fun _ _ h => h).trans (hk2.mono fun _ _ h => .inl h) fun _ _ h => h
  have c1 := hB1.c1
  have d1 : W'.cell? ⟨b, 1, none⟩ = some v := hBW.cell rfl
  have g1 := hBW.frozen 1
  obtain ⟨ao, ln, cp, hvf⟩ : ∃ ao ln cp, v' = .slice ao ln cp := by
    rcases ho.2 with ⟨e, _⟩ | ⟨g, cap, cur, e, _⟩
    · exact ⟨_, _, _, e⟩
    · exact ⟨_, _, _, e⟩
  subst hvf
  clear hr ho hl hK hB1 hK1 HC hBW hi hz0 hz1 hz2
  go_wp2_with (at_builtin; go_must (refine wpList_append_run rfl (.tmp 11) (.tmp 13) 28 28 rfl v (.slice (some ⟨w1.heap.size, 0, none⟩) 1 1) (.slice ao ln cp) W' rfl rfl HR.out ?_; refine Hid.out ?_))
  unfold Hid
  clear HR c1
  go_wp2
  go_ret
  exact ⟨rfl, HE.out⟩

/-- The text of a builder. -/
theorem string_any (b : Nat) (p v : Value) (xs : List UInt8) (w : World) (h : Bd w b p v xs) (B : Nat) (hB : B ≤ b) (hv : ∀ k, v.ownBlock = some k → B ≤ k) :
    Calls Tryd.prog 14 #[.pointer (some ⟨b, 0, none⟩)] w fun e w' => e = .returned (.string (bst xs)) ∧ Keeps (fun k => B ≤ k) w w' := by
  have hown : w.ownsRow B 5 1 v xs.length (bvs xs) := by
    refine ⟨h.own.1, ?_⟩
    rcases h.own.2 with h2 | ⟨g, cap, cur, e, hb, hg, h3⟩
    · exact .inl h2
    · exact .inr ⟨g, cap, cur, e, hv g (by rw [e]; rfl), hg, h3⟩
  have e : Lib.byteCells xs = bvs xs := rfl
  have hl : (bvs xs).length = xs.length := bvs_length xs
  have hI : Lib.IsBuilder 32 5 B b (Lib.byteCells xs) w := by
    rw [e]
    have : Lib.BuilderAt 32 5 B b p (bvs xs) w := ⟨hB, v, h.lies, by rw [hl]; exact hown, h.ne⟩
    rcases h.p with rfl | rfl
    · exact .inl this
    · exact .inr this
  refine (Tryd.Builder_String_any B b xs w hI (Nat.le_trans hB (Nat.le_of_lt (Array.getElem?_eq_some_iff.1 h.lies).1))).mono ?_
  rintro e w' ⟨rfl, hb⟩
  exact ⟨rfl, ⟨hb.os, hb.tape, hb.output, hb.size, fun k hk hn => hb.block k (by omega)⟩⟩
end Go.Proofs.YtohojpacijnnaaaDoor
