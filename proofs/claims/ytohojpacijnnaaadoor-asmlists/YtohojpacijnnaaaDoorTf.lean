import Derived.Test.YtohojpacijnnaaaDoorAp
namespace Go.Proofs.YtohojpacijnnaaaDoor
open Go.RowKit Go.Shelf
set_option linter.unusedVariables false
set_option linter.unusedSimpArgs false
set_option maxRecDepth 6000

theorem line_any (x : Nat) (hx : x < 4294967296) (w : World) (ht : Tabs w) : Calls Tryd.prog 12 #[.int .u32 (x : Int)] w fun e w' => e = .returned (.string (bst (lineW x))) ∧ Keeps (fun _ => False) w w' := by
  cases hd : Is.decOk x with
  | false => exact line_no x hx w ht hd
  | true => exact line_yes x hx w ht hd

theorem size32 : (Tryd.prog.info? 32).map (·.size) = some 2 := by kernel_rfl
theorem check_nil (b : Nat) (w : World) (h0 : w.cell? ⟨b, 0, none⟩ = some (.pointer none)) (hsh : w.shape? b = some (32, 2)) (hf : w.frozen? ⟨b, 0, none⟩ = false) :
    Calls Tryd.prog 20 #[.pointer (some ⟨b, 0, none⟩)] w fun e w' => e = .returned (.tuple #[]) ∧ w' = w.setCell ⟨b, 0, none⟩ (.pointer (some ⟨b, 0, none⟩)) := by
  obtain ⟨j, hj, hjs⟩ := Option.map_eq_some_iff.1 size32
  go_enter Tryd.func20, Tryd.ntmps20
  go_wp2
  rw [Lib.run_to_unsafe w ⟨b, 0, none⟩ Tryd.underlying30 Tryd.underlying66 hj (by rw [hjs]; decide) hsh (Nat.zero_lt_succ 1)]
  simp only [Result.andThen]
  rw [Oper.upon_value]
  go_wp2
  rw [run_callFunc_extern Tryd.func33 (by kernel_rfl) (by kernel_rfl) (by kernel_rfl) (e := Extern.AbiNoEscape.same) (by kernel_rfl)]
  rw [Lib.run_noEscape]
  simp only [Result.andThen]
  rw [Oper.upon_value]
  go_wp2
  rw [Lib.run_from_unsafe w ⟨b, 0, none⟩ Tryd.underlying66 Tryd.underlying30 hj hsh (by kernel_rfl)]
  simp only [Result.andThen]
  rw [Oper.upon_value]
  go_wp2
  go_end0
  exact ⟨rfl, rfl⟩
theorem check_self (b : Nat) (w : World) (h0 : w.cell? ⟨b, 0, none⟩ = some (.pointer (some ⟨b, 0, none⟩))) :
    Calls Tryd.prog 20 #[.pointer (some ⟨b, 0, none⟩)] w fun e w' => e = .returned (.tuple #[]) ∧ w' = w := by
  obtain ⟨j, hj, hjs⟩ := Option.map_eq_some_iff.1 size32
  go_enter Tryd.func20, Tryd.ntmps20
  go_wp2
  rw [Lib.run_neq_ptr_same w _ Tryd.underlying30 hj]
  go_wp2
  go_end0
  exact ⟨rfl, rfl⟩

/-- A builder that holds these bytes. -/
structure Bd (w : World) (b : Nat) (p v : Value) (xs : List UInt8) : Prop where
  lies : w.heap[b]? = some (.cells #[p, v] 32 (0, 0))
  own : w.ownsRow 0 5 1 v xs.length (bvs xs)
  ne : v.ownBlock ≠ some b
  p : p = .pointer none ∨ p = .pointer (some ⟨b, 0, none⟩)
theorem Bd.c0 {w : World} {b : Nat} {p v : Value} {xs : List UInt8} (h : Bd w b p v xs) : w.cell? ⟨b, 0, none⟩ = some p := by simp [World.cell?, h.lies]
theorem Bd.c1 {w : World} {b : Nat} {p v : Value} {xs : List UInt8} (h : Bd w b p v xs) : w.cell? ⟨b, 1, none⟩ = some v := by simp [World.cell?, h.lies]
theorem Bd.fr {w : World} {b : Nat} {p v : Value} {xs : List UInt8} (h : Bd w b p v xs) (i : Nat) : w.frozen? ⟨b, i, none⟩ = false := by simp [World.frozen?, h.lies]
theorem Bd.blk {w : World} {b : Nat} {p v : Value} {xs : List UInt8} (h : Bd w b p v xs) : Blk w b [p, v] 32 := h.lies
theorem Bd.kept {S : Nat → Prop} {w w' : World} {b : Nat} {p v : Value} {xs : List UInt8} (h : Bd w b p v xs) (hK : Keeps S w w') (hb : ¬ S b) (hv : ∀ k, v.ownBlock = some k → ¬ S k) : Bd w' b p v xs :=
  ⟨by rw [hK.block b (Array.getElem?_eq_some_iff.1 h.lies).1 hb]; exact h.lies, owns_kept h.own hK hv, h.ne, h.p⟩
/-- Behind copyCheck. -/
theorem check_any (b : Nat) (p v : Value) (xs : List UInt8) (w : World) (h : Bd w b p v xs) :
    Calls Tryd.prog 20 #[.pointer (some ⟨b, 0, none⟩)] w fun e w' => e = .returned (.tuple #[]) ∧ Bd w' b (.pointer (some ⟨b, 0, none⟩)) v xs ∧ Keeps (fun k => k = b) w w' := by
  rcases h.p with rfl | rfl
  · refine (check_nil b w h.c0 (by simp [World.shape?, h.lies]) (h.fr 0)).mono ?_
    rintro e w' ⟨rfl, rfl⟩
    have hk : Keeps (fun k => k = b) w (w.setCell ⟨b, 0, none⟩ (.pointer (some ⟨b, 0, none⟩))) := (Keeps.refl _ w).setCell _ _ fun _ => rfl
    exact ⟨rfl, ⟨h.blk.setCell 0 _, owns_kept h.own hk fun k e1 e2 => h.ne (by rw [e1, e2]), h.ne, .inr rfl⟩, hk⟩
  · refine (check_self b w h.c0).mono ?_
    rintro e w' ⟨rfl, rfl⟩
    exact ⟨rfl, h, Keeps.refl _ _⟩

/-- Behind a write: what the builder holds, where its row lies, what else is as it was. -/
structure Wrote (w : World) (b : Nat) (v : Value) (ys : List UInt8) (w' : World) : Prop where
  bd : ∃ v', Bd w' b (.pointer (some ⟨b, 0, none⟩)) v' ys ∧ (v'.ownBlock = v.ownBlock ∨ ∃ k, v'.ownBlock = some k ∧ w.heap.size ≤ k)
  keeps : Keeps (fun k => k = b ∨ some k = v.ownBlock) w w'

set_option maxHeartbeats 2000000 in
theorem write_any (b : Nat) (p v : Value) (xs : List UInt8) (s : ByteArray) (w : World) (h : Bd w b p v xs) (hm : xs.length + s.size ≤ 140737488355328) :
    Calls Tryd.prog 11 #[.pointer (some ⟨b, 0, none⟩), .string s] w fun e w' => e = .returned (.tuple #[.int .i64 s.size, .nilIface]) ∧ Wrote w b v (xs ++ s.data.toList) w' := by
  have HC := Hid.mkq (check_any b p v xs w h)
  have HB : Hid (xs.length + s.size ≤ 140737488355328 ∧ b < w.heap.size) := ⟨hm, (Array.getElem?_eq_some_iff.1 h.lies).1⟩
  clear h hm
  go_enter Tryd.func11, Tryd.ntmps11
  go_wp2_with fail
  refine HC.out.mono ?_
  rintro e w1 ⟨rfl, hB1, hK1⟩
  obtain ⟨v', W', hr, ho, hl, hK⟩ := append_text v xs.length xs hB1.own s HB.out.1
  have HR := Hid.mkq hr
  have hBW : Blk W' b [.pointer (some ⟨b, 0, none⟩), v] 32 := by
    have := hB1.blk
    exact this.kept hK fun e => hB1.ne e.symm
  have HE : Hid (Wrote w b v (xs ++ s.data.toList) (W'.setCell ⟨b, 1, none⟩ v')) := by
    have hne : v'.ownBlock ≠ some b := by
      rcases hl with e | ⟨k, e, hk⟩
      · rw [e]; exact hB1.ne
      · rw [e]
        intro e2
        cases e2
        have := (Array.getElem?_eq_some_iff.1 hB1.lies).1
        omega
    have hk2 : Keeps (fun k => k = b) W' (W'.setCell ⟨b, 1, none⟩ v') := (Keeps.refl _ W').setCell _ _ fun _ => rfl
    refine ⟨⟨v', ⟨hBW.setCell 1 v', ?_, hne, .inr rfl⟩, ?_⟩, ?_⟩
    · have := owns_kept ho hk2 fun k e1 e2 => hne (by rw [e1, e2])
      have e : (xs ++ s.data.toList).length = xs.length + s.size := by rw [List.length_append]; rfl
      rw [e]; exact this
    · rcases hl with e | ⟨k, e, hk⟩
      · exact .inl e
      · exact .inr ⟨k, e, Nat.le_trans hK1.size hk⟩
    · exact ((hK1.mono fun _ _ h => .inl h).trans (hK.mono fun _ _ h => .inr h) fun _ _ h => h).trans (hk2.mono fun _ _ h => .inl h) fun _ _ h => h
  have c1 := hB1.c1
  have d1 : W'.cell? ⟨b, 1, none⟩ = some v := hBW.cell rfl
  have g1 := hBW.frozen 1
  have hv1 : v'.oneCell' = true := by
    rcases ho.2 with ⟨e, _⟩ | ⟨g, cap, cur, e, _⟩ <;> rw [e] <;> rfl
  obtain ⟨ao, ln, cp, hvf⟩ : ∃ ao ln cp, v' = .slice ao ln cp := by
    rcases ho.2 with ⟨e, _⟩ | ⟨g, cap, cur, e, _⟩
    · exact ⟨_, _, _, e⟩
    · exact ⟨_, _, _, e⟩
  subst hvf
  clear hr ho hl hK hB1 hK1 HC hBW hv1
  go_wp2_with (at_builtin; go_must (refine wpList_append_run rfl (.tmp 12) (.tmp 13) 28 9 rfl v (.string s) (.slice ao ln cp) W' rfl rfl HR.out ?_; refine Hid.out ?_))
  unfold Hid
  clear HR c1
  go_wp2
  go_ret2
  exact ⟨rfl, HE.out⟩
end Go.Proofs.YtohojpacijnnaaaDoor
