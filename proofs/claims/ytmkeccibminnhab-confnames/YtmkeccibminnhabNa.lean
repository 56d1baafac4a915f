import Derived.Test.YtmkeccibminnhabEn
namespace Go.Proofs.Ytmkeccibminnhab
open Go.RowKit
set_option linter.unusedVariables false
set_option maxRecDepth 6000

def zX : Cfg := ⟨0, 0, 0, 0, none, 0, [], none, 0, [], none, 0, []⟩
theorem zX_in (w : World) : zX.In w 0 :=
  ⟨.inl rfl, fun h => (h rfl).elim, ⟨Nat.le_refl _, Nat.zero_le _⟩, fun c h => (by cases h), .inl rfl, fun h => (h rfl).elim, ⟨Nat.le_refl _, Nat.zero_le _⟩, fun c h => (by cases h), .inl rfl, fun h => (h rfl).elim, ⟨Nat.le_refl _, Nat.zero_le _⟩, fun c h => (by cases h), by
    intro n hn
    have : n = 0 := by simp only [Cfg.ns, zX, List.mem_cons, List.not_mem_nil, or_false, or_self] at hn; exact hn
    rw [this]; exact ⟨by decide, by decide⟩⟩
theorem zX_d : zX.d = false := by decide +kernel
theorem zX_e : zX.e.length = 19 := by decide +kernel
theorem zX_len : (form zX).length = 27 := by
  unfold form body markB
  rw [List.length_append, List.length_append, lowB_len, lowB_len, zX_e]
theorem zX_mark : (form zX).take 4 = [66, 75, 67, 49] := by
  have h : markB = [66, 75, 67, 49] := by decide +kernel
  unfold form body
  rw [List.append_assoc, h]
  rfl

set_option maxHeartbeats 1000000 in
theorem confNames_any (w : World) : Calls Try.prog 3 #[] w fun e w' => e = .returned (.bool true) ∧ Keeps (fun _ => False) w w' := by
  have HE : Hid (Calls Try.prog 4 #[.agg #[.int .i64 0, .int .i64 0, .int .i64 0, .int .i64 0, .slice none 0 0, .slice none 0 0, .slice none 0 0]] w _) := encode_any 0 zX w (zX_in w) (Nat.zero_le _)
  go_enter Try.func3, Try.ntmps3
  go_wp2_with fail
  refine HE.out.mono ?_
  clear HE
  rintro e w1 ⟨hK1, ⟨h1, _⟩ | ⟨_, h2, _⟩ | ⟨_, _, g, hg, hB, rfl⟩⟩
  · rw [zX_d] at h1; cases h1
  · rw [zX_len] at h2; omega
  · have hcv := run_text_of (P := Try.prog) (w := w1) 22 9 5 Try.underlying22 Try.underlying5 Try.underlying9 g 0 27 (bvs (form zX)) 5 hB [66, 75, 67, 49] (by
      right
      show (List.drop 0 (bvs (form zX))).take 4 = _
      rw [List.drop_zero, ← bvs_take, zX_mark])
    have hcv2 : (convert 22 9 (.slice (some ⟨g, 0, none⟩) 4 27)).run Try.prog w1 = .ok (.string ⟨#[66, 75, 67, 49]⟩) w1 := hcv
    rw [zX_len]
    have HK : Hid (Keeps (fun _ => False) w w1) := hK1
    clear hcv hg hB hK1
    go_wp2
    go_ret
    exact ⟨rfl, HK.out⟩
end Go.Proofs.Ytmkeccibminnhab
