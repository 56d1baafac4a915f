import Derived.Test.YtfbapgcopidbpaaGreatP
import Derived.Test.YtfbapgcopidbpaaGreatRp
namespace Go.Proofs.YtfbapgcopidbpaaGreat
open Go.RowKit
set_option linter.unusedVariables false
set_option maxRecDepth 6000

/-- A memory of f frames has the word. -/
def isW (f a : Int) : Bool := decide (0 ≤ a) && decide (a / 16 < f) && decide (a / 16 < 1024)

/-- A region has the frame. -/
def Rgn.hasF (fr : Int) (r : Rgn) : Bool := decide (0 ≤ r.frame) && decide (r.frame ≤ 1024) && decide (r.frame ≤ fr) && decide (fr < r.frame + r.pages)

end Go.Proofs.YtfbapgcopidbpaaGreat
namespace Go.Proofs.YtfbapgcopidbpaaGreat
open Go.RowKit
set_option linter.unusedVariables false
set_option maxRecDepth 6000

/-- Whose the frame is, as the regions say: the first partition's that has it. -/
def regO (fr : Int) (ps : List Par) : Ow := match ps.findIdx? (fun P => P.rs.any (Rgn.hasF fr)) with | some i => ⟨1, i, 0⟩ | none => ⟨0, 0, 0⟩
theorem set3 {w : World} {C : Nat} {a0 a1 a2 : Value} {t : TypeId} (hB : Blk w C [a0, a1, a2] t) (v0 v1 v2 : Value) :
    Blk (((w.setCell ⟨C, 0, none⟩ v0).setCell ⟨C, 1, none⟩ v1).setCell ⟨C, 2, none⟩ v2) C [v0, v1, v2] t ∧
    Keeps (fun k => k = C) w (((w.setCell ⟨C, 0, none⟩ v0).setCell ⟨C, 1, none⟩ v1).setCell ⟨C, 2, none⟩ v2) :=
  ⟨((hB.setCell 0 v0).setCell 1 v1).setCell 2 v2, (((Keeps.refl (fun k => k = C) w).setCell ⟨C, 0, none⟩ v0 fun _ => rfl).setCell ⟨C, 1, none⟩ v1 fun _ => rfl).setCell ⟨C, 2, none⟩ v2 fun _ => rfl⟩

/-- While the regions are asked: the configuration in C, the answer in E, nobody's yet. -/
structure RoI (w : World) (x : Cfg) (C E N : Nat) (w' : World) : Prop where
  one : One w x C N w'
  ans : Blk w' E [.int .i64 0, .int .i64 0, .int .i64 0] 86
  lo : w.heap.size ≤ E
end Go.Proofs.YtfbapgcopidbpaaGreat
namespace Go.Proofs.YtfbapgcopidbpaaGreat
open Go.RowKit
set_option linter.unusedVariables false
set_option linter.unusedSimpArgs false
set_option maxRecDepth 6000

def sumK (hist : List (Ow × Int)) : Int := (hist.map (·.2)).sum
/-- Whose the word t is, of words that were dealt from s on: the last one's that got it. -/
def lastGo (t : Int) : Int → Ow → List (Ow × Int) → Ow
  | _, f, [] => f
  | s, f, (o, k) :: r => lastGo t (s + k) (if s ≤ t ∧ t < s + k then o else f) r
/-- The counter of an owner: it counts, and keeps who got the word t. -/
structure JO (B K A F : Nat) (s t : Int) (w : World) (a : Int) (hist : List (Ow × Int)) : Prop where
  cnt : Blk w B [.int .i64 a] 3
  fn : Blk w K [.func (.func 96) #[] #[.pointer (some ⟨B, 0, none⟩)]] 133
  word : Blk w A [.int .i64 t] 3
  found : Blk w F (lastGo t s ⟨0, 0, 0⟩ hist).vs 86
  sum : a = s + sumK hist
  apart : B ≠ K ∧ B ≠ A ∧ B ≠ F ∧ K ≠ A ∧ K ≠ F ∧ A ≠ F
def SO (B K A F : Nat) : Nat → Prop := fun b => b = B ∨ b = K ∨ b = A ∨ b = F
end Go.Proofs.YtfbapgcopidbpaaGreat
namespace Go.Proofs.YtfbapgcopidbpaaGreat
open Go.RowKit
set_option linter.unusedVariables false
set_option linter.unusedSimpArgs false
set_option maxRecDepth 6000

/-- What whoever asks for a word of the kernel's area holds: the configuration in C, the word, the answer and what was found behind it; K is the counter's own variable, B what it counts with. -/
structure KO (w : World) (x : Cfg) (C N : Nat) (t : Int) (ok ob : Bool) (K B : Nat) (w' : World) : Prop where
  one : One w x C N w'
  word : Blk w' (C + 1) [.int .i64 t] 3
  res : Blk w' (C + 2) [.int .i64 0, .int .i64 0, .int .i64 0] 86
  found : Blk w' (C + 3) [.int .i64 0, .int .i64 0, .int .i64 0] 86
  sz : C + 4 ≤ w'.heap.size
  cw : C = w.heap.size
  kk : ok = true → Blk w' K [.nilFunc] 133 ∧ C + 4 ≤ K
  bb : ob = true → Blk w' B [.int .i64 (16 * x.kernel)] 3 ∧ C + 4 ≤ B
  ne : ok = true → ob = true → K ≠ B
/-- The same, with the counter in its variable. -/
structure KP (w : World) (x : Cfg) (C N : Nat) (t : Int) (K B : Nat) (w' : World) : Prop where
  one : One w x C N w'
  word : Blk w' (C + 1) [.int .i64 t] 3
  res : Blk w' (C + 2) [.int .i64 0, .int .i64 0, .int .i64 0] 86
  found : Blk w' (C + 3) [.int .i64 0, .int .i64 0, .int .i64 0] 86
  cw : C = w.heap.size
  fn : Blk w' K [.func (.func 96) #[] #[.pointer (some ⟨B, 0, none⟩)]] 133
  cnt : Blk w' B [.int .i64 (16 * x.kernel)] 3
  lo : C + 4 ≤ K ∧ C + 4 ≤ B ∧ K ≠ B
end Go.Proofs.YtfbapgcopidbpaaGreat
namespace Go.Proofs.YtfbapgcopidbpaaGreat
open Go.RowKit
set_option linter.unusedVariables false
set_option linter.unusedSimpArgs false
set_option maxRecDepth 6000

/-- Whose a word of a configuration that can be laid out is. -/
def ownO (x : Cfg) (t : Int) : Ow :=
  if (lastGo t (16 * x.kernel) ⟨0, 0, 0⟩ (layH x (16 * x.kernel))).kind = 0 then regO (t / 16) x.ps else lastGo t (16 * x.kernel) ⟨0, 0, 0⟩ (layH x (16 * x.kernel))
/-- What Owner answers. -/
def ownA (x : Cfg) (t : Int) : Ow × Int :=
  if x.mayB = false then (⟨0, 0, 0⟩, 150) else if isW x.frames t = false then (⟨0, 0, 0⟩, 151) else (ownO x t, 0)

structure OwI (w : World) (x : Cfg) (C N : Nat) (w' : World) : Prop where
  one : One w x C N w'
  res : Blk w' (C + 1) [.int .i64 0, .int .i64 0, .int .i64 0] 86
  cw : C = w.heap.size
end Go.Proofs.YtfbapgcopidbpaaGreat
namespace Go.Proofs.YtfbapgcopidbpaaGreat
open Go.RowKit
set_option linter.unusedVariables false
set_option linter.unusedSimpArgs false
set_option maxRecDepth 6000

/-- A piece has the word. -/
def Pc.has (t : Int) (p : Pc) : Bool := decide (p.pos ≤ t) && decide (t < p.pos + p.size)
def ownD (x : Cfg) (t : Int) : Ow := match (pcAll x (16 * x.kernel)).find? (Pc.has t) with | some p => p.ow | none => regO (t / 16) x.ps
def ownR (x : Cfg) (t : Int) : Ow × Int :=
  if x.mayB = false then (⟨0, 0, 0⟩, 150) else if isW x.frames t = false then (⟨0, 0, 0⟩, 151) else (ownD x t, 0)
end Go.Proofs.YtfbapgcopidbpaaGreat
namespace Go.Proofs.YtfbapgcopidbpaaGreat
open Go.RowKit
set_option linter.unusedVariables false
set_option linter.unusedSimpArgs false

theorem szH_nonneg : ∀ r : List (Ow × Int), (∀ e ∈ r, 0 ≤ e.2) → 0 ≤ szH r
  | [], _ => by simp [szH]
  | e :: r, hn => by
    have h1 := hn e (by simp)
    have h2 := szH_nonneg r fun e he => hn e (by simp [he])
    simp only [szH, List.map_cons, List.sum_cons] at h2 ⊢; omega
theorem ann_mem {p : Pc} : ∀ {h : List (Ow × Int)} {s : Int}, (∀ e ∈ h, 0 ≤ e.2) → p ∈ ann s h → (p.ow, p.size) ∈ h ∧ s ≤ p.pos ∧ p.pos + p.size ≤ s + szH h ∧ 0 ≤ p.size
  | [], _, _, hp => by simp [ann] at hp
  | (o, k) :: r, s, hn, hp => by
    have hk := hn (o, k) (by simp)
    have hr := szH_nonneg r fun e he => hn e (by simp [he])
    have hz : szH ((o, k) :: r) = k + szH r := by simp [szH]
    dsimp only at hk
    rw [ann, List.mem_cons] at hp
    rcases hp with rfl | hp
    · exact ⟨by simp, by dsimp only; omega, by dsimp only; omega, hk⟩
    · obtain ⟨h1, h2, h3, h4⟩ := ann_mem (fun e he => hn e (by simp [he])) hp
      exact ⟨by simp [h1], by omega, by omega, h4⟩

def headH (x : Cfg) : List (Ow × Int) := [(⟨2, 0, 0⟩, 2)] ++ partH x.ps.length ++ chansH x x.hs.length
theorem headH_ok {x : Cfg} (hm : x.mayB = true) : ∀ e ∈ headH x, 0 ≤ e.2 ∧ e.1.kind ≠ 0 := by
  intro e he
  unfold headH partH chansH at he
  simp only [List.mem_append, List.mem_singleton, List.mem_flatMap, List.mem_range, List.mem_cons, List.not_mem_nil, or_false] at he
  rcases he with (rfl | ⟨p, _, rfl | rfl | rfl⟩) | ⟨n, hn, he⟩
  · decide
  · simp
  · simp
  · simp
  · have hh : x.hs[n]? = some x.hs[n] := List.getElem?_eq_getElem hn
    rw [hh] at he
    obtain ⟨hs, _, h1, h4⟩ := Cfg.mayB_chn hm hh
    have hb := Chn.plc_bd hs
    have h2 : 3 ≤ x.hs[n].stg ∧ x.hs[n].stg ≤ 137 := by unfold Chn.stg; omega
    have h3 : 4 ≤ x.hs[n].prt ∧ x.hs[n].prt ≤ 139 := by unfold Chn.prt; split <;> omega
    unfold chanH destH at he
    simp only [List.mem_append, List.mem_cons, List.not_mem_nil, or_false, List.mem_map] at he
    rcases he with (rfl | rfl) | ⟨d, _, rfl⟩
    · simp
    · exact ⟨by dsimp only; omega, by simp⟩
    · exact ⟨by dsimp only; omega, by simp⟩
theorem tabsH_ok (x : Cfg) : ∀ e ∈ tabsH x x.ps.length, 0 ≤ e.2 ∧ e.1.kind ≠ 0 := by
  intro e he
  unfold tabsH at he
  simp only [List.mem_flatMap, List.mem_range] at he
  obtain ⟨p, hp, he⟩ := he
  rw [List.getElem?_eq_getElem hp] at he
  have := List.eq_of_mem_replicate he
  subst this
  simp
theorem szH_headH (x : Cfg) (a : Int) : a + szH (headH x) = chE x a := by
  unfold headH chE
  rw [← szH_chansH (chB x a) x.hs.length (Nat.le_refl _), szH_append, szH_append, szH_partH]
  unfold chB
  simp only [szH, List.map_cons, List.map_nil, List.sum_cons, List.sum_nil]; omega
theorem pcAll_eq (x : Cfg) (a : Int) : pcAll x a = ann a (headH x) ++ ann (rtB x a) (tabsH x x.ps.length) := by
  unfold pcAll pcB headH pcA
  congr 1
  rw [ann_append, ann_append]
  have e1 : szH ([(⟨2, 0, 0⟩, 2)] ++ partH x.ps.length) = 2 + 24 * x.ps.length := by rw [szH_append, szH_partH]; simp [szH]
  rw [e1]
  have e2 : chB x a = a + (2 + 24 * x.ps.length) := by unfold chB; omega
  rw [e2]
  simp [ann, szH]
theorem pcAll_bd {x : Cfg} (hm : x.mayB = true) : ∀ p ∈ pcAll x (16 * x.kernel), 0 ≤ p.pos ∧ p.pos ≤ 1000000 ∧ 0 ≤ p.size ∧ p.size ≤ 1000000 := by
  have hk := Cfg.mayB_iff.1 hm
  obtain ⟨a, ha⟩ : ∃ a, 16 * x.kernel = a := ⟨_, rfl⟩
  have h1 := chAt_bd hm (chB x a) x.hs.length
  have h2 := rtAt_bd x (rtB x a) x.ps.length
  have h3 : chE x a = chAt x (chB x a) x.hs.length := rfl
  have h4 : rtB x a = chE x a + fillN (chE x a) := rfl
  have h5 : 0 ≤ fillN (chE x a) ∧ fillN (chE x a) ≤ 16 := by unfold fillN; split <;> omega
  have h6 : chB x a = a + 2 + 24 * x.ps.length := rfl
  have h7 := szH_headH x a
  have h8 := szH_tabsH (x := x) (rtB x a) x.ps.length (Nat.le_refl _)
  intro p hp
  rw [ha, pcAll_eq] at hp
  rcases List.mem_append.1 hp with hp | hp
  · have := ann_mem (fun e he => (headH_ok hm e he).1) hp; omega
  · have := ann_mem (fun e he => (tabsH_ok x e he).1) hp; omega
end Go.Proofs.YtfbapgcopidbpaaGreat
