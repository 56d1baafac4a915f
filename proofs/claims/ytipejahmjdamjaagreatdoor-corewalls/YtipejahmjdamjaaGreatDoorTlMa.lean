import Derived.Test.YtipejahmjdamjaaGreatDoorTlI
namespace Go.Proofs.YtipejahmjdamjaaGreatDoor.Tl
open Go.RowKit Go.Shelf
set_option linter.unusedVariables false

def inB (n many : Int) : Bool := decide (0 ≤ n) && decide (n < many)
def mayB (l : Lf) : Bool := inB l.p 256 && inB l.f 1024 && inB l.r 8

theorem within_any (n many : Int) (w : World) : Calls Tryz.prog 167 #[.int .i64 n, .int .i64 many] w fun r w' => r = .returned (.bool (inB n many)) ∧ w' = w := by
  unfold inB
  by_cases h1 : 0 ≤ n
  · by_cases h2 : n < many
    · rw [decide_eq_true h1, decide_eq_true h2]
      go_enter Tryz.func167, Tryz.ntmps167
      go_wp2
      go_ret
      exact ⟨rfl, rfl⟩
    · rw [decide_eq_true h1, decide_eq_false h2]
      go_enter Tryz.func167, Tryz.ntmps167
      go_wp2
      go_ret
      exact ⟨rfl, rfl⟩
  · rw [decide_eq_false h1]
    go_enter Tryz.func167, Tryz.ntmps167
    go_wp2
    go_ret
    exact ⟨rfl, rfl⟩

theorem mayBe_any (l : Lf) (w : World) : Calls Tryz.prog 122 #[l.v] w fun r w' => r = .returned (.bool (mayB l)) ∧ Keeps (fun _ => False) w w' := by
  obtain ⟨W, hW⟩ : ∃ W, W = w.alloc (.cells #[.int .i64 l.p, .int .i64 l.f, .int .i64 l.r] 64) := ⟨_, rfl⟩
  have hB : Blk W w.heap.size l.vs 64 := by rw [hW]; exact Blk.new w _ 64
  have v0 := hB.cell (i := 0) rfl
  have v1 := hB.cell (i := 1) rfl
  have v2 := hB.cell (i := 2) rfl
  have hKW : Keeps (fun _ => False) w W := by rw [hW]; exact (Keeps.refl _ w).alloc _
  have HW : Hid (W = _ ∧ Keeps (fun _ => False) w W) := ⟨hW, hKW⟩
  have H1 : Hid (Calls _ _ _ _ _) := within_any l.p 256 W
  have H2 : Hid (Calls _ _ _ _ _) := within_any l.f 1024 W
  have H3 : Hid (Calls _ _ _ _ _) := within_any l.r 8 W
  clear hW hKW hB
  unfold mayB
  generalize inB l.p 256 = b1 at *
  generalize inB l.f 1024 = b2 at *
  generalize inB l.r 8 = b3 at *
  cases b1
  · go_enter Tryz.func122, Tryz.ntmps122
    go_wp2_with fail
    rw [← HW.out.1]
    refine H1.out.mono ?_
    rintro r w1 ⟨rfl, rfl⟩
    go_wp2
    go_ret
    exact ⟨rfl, HW.out.2⟩
  · cases b2
    · go_enter Tryz.func122, Tryz.ntmps122
      go_wp2_with fail
      rw [← HW.out.1]
      refine H1.out.mono ?_
      rintro r w1 ⟨rfl, rfl⟩
      go_wp2_with fail
      refine H2.out.mono ?_
      rintro r w1 ⟨rfl, rfl⟩
      go_wp2
      go_ret
      exact ⟨rfl, HW.out.2⟩
    · go_enter Tryz.func122, Tryz.ntmps122
      go_wp2_with fail
      rw [← HW.out.1]
      refine H1.out.mono ?_
      rintro r w1 ⟨rfl, rfl⟩
      go_wp2_with fail
      refine H2.out.mono ?_
      rintro r w1 ⟨rfl, rfl⟩
      go_wp2_with fail
      refine H3.out.mono ?_
      rintro r w1 ⟨rfl, rfl⟩
      go_wp2
      go_ret
      exact ⟨by simp, HW.out.2⟩

/-! ### A TLB -/
def kv (ls : List Lf) : List (Int × Lf) := ls.map fun l => (l.p, l)
def wo (p : Int) (ls : List Lf) : List Lf := ls.filter fun l => l.p != p
def findT (p : Int) (ls : List Lf) : Option Lf := ls.find? fun l => l.p == p
def touchT (p : Int) (ls : List Lf) : List Lf := match findT p ls with | some x => wo p ls ++ [x] | none => ls
def putT (l : Lf) (ls : List Lf) : List Lf := if 4 < (wo l.p ls ++ [l]).length then (wo l.p ls ++ [l]).tail else wo l.p ls ++ [l]

theorem look_kv (p : Int) (ls : List Lf) : look p (kv ls) = findT p ls := by
  unfold look kv findT
  rw [List.find?_map, Option.map_map]
  have : (Prod.snd ∘ fun l : Lf => (l.p, l)) = id := rfl
  rw [this, Option.map_id]
  rfl
theorem del_kv (p : Int) (ls : List Lf) : del p (kv ls) = kv (wo p ls) := by
  unfold del kv wo
  rw [List.filter_map]
  rfl
theorem touch_kv (p : Int) (ls : List Lf) : touch p (kv ls) = kv (touchT p ls) := by
  unfold touch touchT
  rw [look_kv, del_kv]
  cases h : findT p ls with
  | none => rfl
  | some x =>
    have hx : x.p = p := by
      have := List.find?_some h
      simpa using this
    simp [kv, hx]
theorem wo_absent {p : Int} {ls : List Lf} (h : findT p ls = none) : wo p ls = ls := by
  unfold findT at h
  rw [List.find?_eq_none] at h
  exact List.filter_eq_self.2 fun l hl => by simpa using h l hl
theorem wo_lt {p : Int} {ls : List Lf} {x : Lf} (h : findT p ls = some x) : (wo p ls).length < ls.length := by
  have hm := List.mem_of_find?_eq_some h
  have hx := List.find?_some h
  unfold wo
  refine Nat.lt_of_le_of_ne (List.length_filter_le _ _) fun he => ?_
  have := List.length_filter_eq_length_iff.1 he x hm
  simp at hx this
  exact this hx
theorem wo_le (p : Int) (ls : List Lf) : (wo p ls).length ≤ ls.length := List.length_filter_le _ _
theorem put_kv (l : Lf) {ls : List Lf} (h4 : ls.length ≤ 4) : putL 4 l.p l (kv ls) = kv (putT l ls) := by
  unfold putL putT
  rw [look_kv, del_kv]
  cases h : findT l.p ls with
  | none =>
    rw [wo_absent h]
    have e1 : (kv ls).length = ls.length := by simp [kv]
    rw [e1]
    by_cases h5 : ls.length < 4
    · rw [if_neg (by simp), if_pos h5, if_neg (by simp; omega)]
      simp [kv]
    · rw [if_neg (by simp), if_neg h5, if_pos (by simp; omega)]
      cases ls with
      | nil => simp at h5
      | cons a r => simp [kv]
  | some x =>
    have := wo_lt h
    rw [if_pos (by simp), if_neg (by simp; omega)]
    simp [kv]
theorem putT_le (l : Lf) {ls : List Lf} (h4 : ls.length ≤ 4) : (putT l ls).length ≤ 4 := by
  unfold putT
  have := wo_le l.p ls
  split
  · simp at *; omega
  · omega
theorem touchT_le (p : Int) {ls : List Lf} (h4 : ls.length ≤ 4) : (touchT p ls).length ≤ 4 := by
  unfold touchT
  cases h : findT p ls with
  | none => exact h4
  | some x => have := wo_lt h; simp; omega

/-- A TLB in the memory: what it holds, the least lately used first; all its blocks are among F. -/
def Tl (w : World) (t : Nat) (ls : List Lf) (F : Nat → Prop) : Prop :=
  ∃ s F0, Blk w t [ptr s] 126 ∧ Sf w s 4 (kv ls) F0 ∧ ¬ F0 t ∧ F t ∧ (∀ b, F0 b → F b) ∧ ∀ b, F b → b < w.heap.size

theorem Tl.kept {S : Nat → Prop} {w w' : World} {t : Nat} {ls : List Lf} {F : Nat → Prop} (h : Tl w t ls F) (hK : Keeps S w w') (hn : ∀ b, F b → ¬ S b) : Tl w' t ls F := by
  obtain ⟨s, F0, h1, h2, h3, h4, h5, h6⟩ := h
  exact ⟨s, F0, h1.kept hK (hn t h4), h2.kept hK fun b hb => hn b (h5 b hb), h3, h4, h5, fun b hb => Nat.lt_of_lt_of_le (h6 b hb) hK.size⟩
theorem Tl.lt {w : World} {t : Nat} {ls : List Lf} {F : Nat → Prop} (h : Tl w t ls F) : ∀ b, F b → b < w.heap.size := by
  obtain ⟨s, F0, h1, h2, h3, h4, h5, h6⟩ := h
  exact h6
theorem Tl.le {w : World} {t : Nat} {ls : List Lf} {F : Nat → Prop} (h : Tl w t ls F) : ls.length ≤ 4 := by
  obtain ⟨s, F0, h1, h2, h3, h4, h5, h6⟩ := h
  have := h2.fits
  simpa [kv] using this
theorem Tl.pages {w : World} {t : Nat} {ls : List Lf} {F : Nat → Prop} (h : Tl w t ls F) : (ls.map Lf.p).Nodup := by
  obtain ⟨s, F0, h1, h2, h3, h4, h5, h6⟩ := h
  have := h2.keys
  unfold kv at this
  rw [List.map_map] at this
  exact this

/-- Where the TLB is now: its blocks are old ones of its own or new ones. -/
def NowT (w w' : World) (t : Nat) (ls : List Lf) (F : Nat → Prop) : Prop :=
  (∃ F', Tl w' t ls F' ∧ ∀ b, F' b → F b ∨ w.heap.size ≤ b) ∧ Keeps F w w'

theorem nowT_of {w w1 w' : World} {t s : Nat} {ls : List Lf} {F F0 : Nat → Prop} (hK1 : Keeps (fun _ => False) w w1) (h1 : Blk w1 t [ptr s] 126) (h3 : ¬ F0 t) (h4 : F t) (h5 : ∀ b, F0 b → F b) (h6 : ∀ b, F b → b < w.heap.size)
    (h : Now w1 w' s 4 (kv ls) F0) : NowT w w' t ls F := by
  obtain ⟨⟨F', hS, hF⟩, hK⟩ := h
  have hz := hK1.size
  refine ⟨⟨fun b => (F b ∨ w.heap.size ≤ b) ∧ b < w'.heap.size, ⟨s, F', h1.kept hK h3, hS, ?_, ⟨.inl h4, Nat.lt_of_lt_of_le (h6 t h4) (Nat.le_trans hz hK.size)⟩, fun b hb => ⟨?_, hS.lt b hb⟩, fun b hb => hb.2⟩, fun b hb => hb.1⟩, ?_⟩
  · intro hb
    rcases hF t hb with h | h
    · exact h3 h
    · have := h6 t h4; omega
  · rcases hF b hb with h | h
    · exact .inl (h5 b h)
    · exact .inr (by omega)
  · exact (hK1.mono fun _ _ h => h.elim).trans hK fun b _ hb => h5 b hb

end Go.Proofs.YtipejahmjdamjaaGreatDoor.Tl
