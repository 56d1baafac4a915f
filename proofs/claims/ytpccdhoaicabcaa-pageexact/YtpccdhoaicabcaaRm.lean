import Derived.Test.YtpccdhoaicabcaaK
namespace Go.Proofs.Ytpccdhoaicabcaa
open Go.RowKit
set_option linter.unusedVariables false

set_option maxHeartbeats 4000000 in
theorem rmaybe_any (r : Rgn) (w : World) (hr : r.Fine) : Calls Try.prog 65 #[r.v] w fun e w' => e = .returned (.bool (decide r.ok)) ∧ Keeps (fun _ => False) w w' := by
  obtain ⟨p, n, f, t⟩ := r
  obtain ⟨⟨a1, a2⟩, ⟨b1, b2⟩, ⟨c1, c2⟩, _, _⟩ := hr
  simp only at a1 a2 b1 b2 c1 c2
  by_cases h0 : p < 0
  · rw [decide_eq_false (fun h : Rgn.ok _ => by unfold Rgn.ok at h; simp only at h; omega)]
    clear a1 a2 b1 b2 c1 c2
    go_enter Try.func65, Try.ntmps65
    go_wp2
    go_ret
    first | exact ⟨rfl, (Keeps.refl _ w).alloc _⟩ | exact ⟨ret_bool (by simp <;> omega), (Keeps.refl _ w).alloc _⟩
  by_cases h1 : 256 < p
  · rw [decide_eq_false (fun h : Rgn.ok _ => by unfold Rgn.ok at h; simp only at h; omega)]
    clear a1 a2 b1 b2 c1 c2
    go_enter Try.func65, Try.ntmps65
    go_wp2
    go_ret
    first | exact ⟨rfl, (Keeps.refl _ w).alloc _⟩ | exact ⟨ret_bool (by simp <;> omega), (Keeps.refl _ w).alloc _⟩
  by_cases h2 : n < 1
  · rw [decide_eq_false (fun h : Rgn.ok _ => by unfold Rgn.ok at h; simp only at h; omega)]
    clear a1 a2 b1 b2 c1 c2
    go_enter Try.func65, Try.ntmps65
    go_wp2
    go_ret
    first | exact ⟨rfl, (Keeps.refl _ w).alloc _⟩ | exact ⟨ret_bool (by simp <;> omega), (Keeps.refl _ w).alloc _⟩
  by_cases h3 : 256 < n
  · rw [decide_eq_false (fun h : Rgn.ok _ => by unfold Rgn.ok at h; simp only at h; omega)]
    clear a1 a2 b1 b2 c1 c2
    go_enter Try.func65, Try.ntmps65
    go_wp2
    go_ret
    first | exact ⟨rfl, (Keeps.refl _ w).alloc _⟩ | exact ⟨ret_bool (by simp <;> omega), (Keeps.refl _ w).alloc _⟩
  by_cases h4 : 256 < p + n
  · rw [decide_eq_false (fun h : Rgn.ok _ => by unfold Rgn.ok at h; simp only at h; omega)]
    clear a1 a2 b1 b2 c1 c2
    go_enter Try.func65, Try.ntmps65
    go_wp2
    go_ret
    first | exact ⟨rfl, (Keeps.refl _ w).alloc _⟩ | exact ⟨ret_bool (by simp <;> omega), (Keeps.refl _ w).alloc _⟩
  by_cases h5 : f < 0
  · rw [decide_eq_false (fun h : Rgn.ok _ => by unfold Rgn.ok at h; simp only at h; omega)]
    clear a1 a2 b1 b2 c1 c2
    go_enter Try.func65, Try.ntmps65
    go_wp2
    go_ret
    first | exact ⟨rfl, (Keeps.refl _ w).alloc _⟩ | exact ⟨ret_bool (by simp <;> omega), (Keeps.refl _ w).alloc _⟩
  by_cases h6 : 1024 < f
  · rw [decide_eq_false (fun h : Rgn.ok _ => by unfold Rgn.ok at h; simp only at h; omega)]
    clear a1 a2 b1 b2 c1 c2
    go_enter Try.func65, Try.ntmps65
    go_wp2
    go_ret
    first | exact ⟨rfl, (Keeps.refl _ w).alloc _⟩ | exact ⟨ret_bool (by simp <;> omega), (Keeps.refl _ w).alloc _⟩
  by_cases h7 : 1024 < f + n
  · rw [decide_eq_false (fun h : Rgn.ok _ => by unfold Rgn.ok at h; simp only at h; omega)]
    clear a1 a2 b1 b2 c1 c2
    go_enter Try.func65, Try.ntmps65
    go_wp2
    go_ret
    first | exact ⟨rfl, (Keeps.refl _ w).alloc _⟩ | exact ⟨ret_bool (by simp <;> omega), (Keeps.refl _ w).alloc _⟩
  by_cases h8 : t < 0
  · rw [decide_eq_false (fun h : Rgn.ok _ => by unfold Rgn.ok at h; simp only at h; omega)]
    clear a1 a2 b1 b2 c1 c2
    go_enter Try.func65, Try.ntmps65
    go_wp2
    go_ret
    first | exact ⟨rfl, (Keeps.refl _ w).alloc _⟩ | exact ⟨ret_bool (by simp <;> omega), (Keeps.refl _ w).alloc _⟩
  by_cases h9 : 7 < t
  · rw [decide_eq_false (fun h : Rgn.ok _ => by unfold Rgn.ok at h; simp only at h; omega)]
    clear a1 a2 b1 b2 c1 c2
    go_enter Try.func65, Try.ntmps65
    go_wp2
    go_ret
    first | exact ⟨rfl, (Keeps.refl _ w).alloc _⟩ | exact ⟨ret_bool (by simp <;> omega), (Keeps.refl _ w).alloc _⟩
  rw [decide_eq_true (show Rgn.ok _ by unfold Rgn.ok; simp only; omega)]
  clear a1 a2 b1 b2 c1 c2
  go_enter Try.func65, Try.ntmps65
  go_wp2
  go_ret
  first | exact ⟨rfl, (Keeps.refl _ w).alloc _⟩ | exact ⟨ret_bool (by simp <;> omega), (Keeps.refl _ w).alloc _⟩

end Go.Proofs.Ytpccdhoaicabcaa
