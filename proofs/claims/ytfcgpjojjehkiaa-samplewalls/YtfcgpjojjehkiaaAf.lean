import Derived.Test.YtfcgpjojjehkiaaAd
namespace Go.Proofs.Ytfcgpjojjehkiaa
open Go.RowKit
set_option linter.unusedVariables false

def fU (N : Nat) (f : Nat → Int) : List Value := (List.range N).map fun i => .int .u32 (f i)
theorem fU_get {N : Nat} (f : Nat → Int) {i : Nat} (h : i < N) : (fU N f)[i]? = some (.int .u32 (f i)) := by
  unfold fU
  rw [List.getElem?_map, List.getElem?_range h]
  rfl
theorem fU_length (N : Nat) (f : Nat → Int) : (fU N f).length = N := by simp [fU]
theorem fU_set {N : Nat} (f : Nat → Int) (m : Nat) (x : Int) : (fU N f).set m (.int .u32 x) = fU N (fun i => if i = m then x else f i) := by
  apply List.ext_getElem?
  intro i
  rw [List.getElem?_set]
  by_cases hi : i < N
  · rw [fU_get _ hi, fU_get _ hi]
    by_cases e : m = i
    · subst e
      simp [fU_length, hi]
    · have e2 : ¬ i = m := fun h => e h.symm
      simp [e, e2]
  · have h1 : (fU N f)[i]? = none := by rw [List.getElem?_eq_none_iff, fU_length]; omega
    have h2 : (fU N (fun i => if i = m then x else f i))[i]? = none := by rw [List.getElem?_eq_none_iff, fU_length]; omega
    rw [h1, h2]
    by_cases e : m = i
    · subst e; simp [fU_length, hi]
    · simp [e]
theorem fW_fU (N : Nat) (f : Nat → UInt32) : fW N f = fU N (fun i => ((f i).toNat : Int)) := rfl
theorem wvs_fU (xs : List UInt32) : wvs xs = fU xs.length (fun i => ((wd xs i).toNat : Int)) := by
  apply List.ext_getElem?
  intro i
  by_cases h : i < xs.length
  · rw [fU_get _ h, wvs_wd h]
  · rw [List.getElem?_eq_none (by rw [wvs_length]; omega), List.getElem?_eq_none (by rw [fU_length]; omega)]

theorem append_word {w : World} (x : Int) (v : Value) (n : Nat) (vs : List Value) (hown : w.ownsRow 0 34 1 v n vs) (hn : n ≤ 1000) :
    ∃ v' W', (∀ ty, (Builtin.append_ #[22, 22] ty #[v, .slice (some ⟨w.heap.size, 0, none⟩) 1 1]).run Try.prog (w.alloc (.cells #[.int .u32 x] 34)) = .ok v' W') ∧ W'.ownsRow 0 34 1 v' (n + 1) (vs ++ [.int .u32 x]) ∧
      (v'.ownBlock = v.ownBlock ∨ ∃ k, v'.ownBlock = some k ∧ w.heap.size ≤ k) ∧ Keeps (fun k => some k = v.ownBlock) w W' := by
  obtain ⟨i0, hi, hz0, hz1, hz2⟩ := info_parts Try.info34
  exact append_new 22 34 i0 _ 1 4 Try.underlying22 hi hz0 hz1 hz2 rfl (by omega) v n vs hown #[.int .u32 x] rfl (by intro u hu; simp at hu; rw [hu]; rfl) (by unfold maxLen; omega) (by omega)

theorem wpList_append_ex {ops : Array Oper} {rest : List Oper} {o : Oper} {a : Act} {Q : Exit → Act → World → Prop} {P : Program} (hgd : o.guard = none) (s x : Operand) (t k : TypeId)
    (ho : o.op = .call { callee := .builtin .append, args := #[s, x], argTypes := #[t, k] }) (vs : Value) (w0 : World) (hs : a.eval s = vs) (hx : a.eval x = .slice (some ⟨w0.heap.size, 0, none⟩) 1 1) (R : Value → World → Prop)
    (hr : ∀ z : Int, ∃ v' W', (∀ ty, (Builtin.append_ #[t, k] ty #[vs, .slice (some ⟨w0.heap.size, 0, none⟩) 1 1]).run P (w0.alloc (.cells #[.int .u32 z] 34)) = .ok v' W') ∧ R v' W') (z : Int)
    (h : ∀ v' W', R v' W' → wpList P ops Q rest (a.put o.dst v') W') : wpList P ops Q (o :: rest) a (w0.alloc (.cells #[.int .u32 z] 34)) := by
  obtain ⟨v', W', h1, h2⟩ := hr z
  exact wpList_append_run hgd s x t k ho vs _ v' W' hs hx h1 (h v' W' h2)

theorem owns_form {w : World} {e : TypeId} {size n : Nat} {v : Value} {vs : List Value} (h : w.ownsRow 0 e size v n vs) : ∃ a c, v = .slice a n c := by
  rcases h.2 with ⟨rfl, rfl⟩ | ⟨g, cap, cur, rfl, _⟩
  · exact ⟨none, 0, rfl⟩
  · exact ⟨_, cap, rfl⟩

set_option maxHeartbeats 2000000 in
theorem spoilWords_any (B n cap : Nat) (f : Nat → Int) (mark : Int) (w : World) (hB : Blk w B (fU cap f) 34) (hl : n ≤ 16) (hc : n ≤ cap) (hc2 : cap ≤ 1000) :
    Calls Try.prog 23 #[.slice (some ⟨B, 0, none⟩) n cap, .int .u32 mark] w fun e w' => e = .returned (.tuple #[]) ∧ Keeps (· = B) w w' := by
  have hN2 : (n : Int) ≤ 16 := by omega
  have hnN : (n : Int) ≤ cap := by omega
  have hcc : (cap : Int) ≤ 1000 := by omega
  have HB : Hid (Blk w B (fU cap f) 34 ∧ n ≤ cap ∧ n ≤ 16 ∧ cap ≤ 1000) := ⟨hB, hc, hl, hc2⟩
  clear hB hl hc hc2
  go_enter Try.func23, Try.ntmps23
  go_wp2
  go_loopw [4] (fun i wr => ∃ (m : Nat) (g : Nat → Int), m ≤ n ∧ i = .int .i64 m ∧ Keeps (· = B) w wr ∧ Blk wr B (fU cap g) 34) (fun i _ => n - (intOf i).toNat)
  case atStart => exact ⟨0, f, by omega, rfl, Keeps.refl _ _, HB.out.1⟩
  case round =>
    obtain ⟨m, g, hm, rfl, hK, hb⟩ := hrel
    by_cases hlt : m < n
    · have hmz : (m : Int) < n := by omega
      have cu := hb.cell (fU_get g (show m < cap by have := HB.out.2; omega))
      have fu := hb.frozen m
      have HR : Hid (∀ x : Int, Keeps (· = B) w (wr.setCell ⟨B, m, none⟩ (.int .u32 x)) ∧ ∃ g, Blk (wr.setCell ⟨B, m, none⟩ (.int .u32 x)) B (fU cap g) 34) := fun x => by
        have h1 := hb.setCell m (.int .u32 x)
        rw [fU_set] at h1
        exact ⟨hK.setCell _ _ fun _ => rfl, _, h1⟩
      have HM : Hid (m < n) := hlt
      clear hb hK hm hlt
      go_wp2
      go_roundw
      case rel =>
        obtain ⟨h1, g, h2⟩ := HR.out _
        exact ⟨m + 1, g, by have := HM.out; omega, by go_num, h1, h2⟩
      case measure => have := HM.out; simp [intOf]; omega
    · obtain rfl : m = n := by omega
      have HR : Hid (wr.ownsRow 0 34 1 (.slice (some ⟨B, 0, none⟩) m cap) m ((fU cap g).take m) ∧ Keeps (· = B) w wr) := by
        refine ⟨⟨by rw [List.length_take, fU_length]; have := HB.out; omega, .inr ⟨B, cap, _, rfl, Nat.zero_le _, hb, by have := HB.out; omega, by unfold maxLen; have := HB.out; omega, ?_, ?_⟩⟩, hK⟩
        · simp [fU_length]
        · simp
      clear hb hK hm hlt
      obtain ⟨wo, hwo⟩ : ∃ wo, wo = wr := ⟨_, rfl⟩
      subst hwo
      go_wp2
      go_loopw [0, 5] (fun v i wr => ∃ (j : Nat) (vs : List Value), j ≤ 72 ∧ i = .int .i64 j ∧ wr.ownsRow 0 34 1 v (m + j) vs ∧ Grew wo (.slice (some ⟨B, 0, none⟩) m cap) wr v) (fun _ i _ => 72 - (intOf i).toNat)
      case atStart => exact ⟨0, _, by omega, rfl, HR.out.1, Grew.refl _ _⟩
      case round =>
        obtain ⟨j, vs, hj, rfl, hO, hG⟩ := hrel
        by_cases hlt : j < 72
        · obtain ⟨a, c, rfl⟩ := owns_form hO
          have hjz : (j : Int) < 72 := by omega
          have HAP : Hid (∀ z : Int, ∃ v' W', (∀ ty, (Builtin.append_ #[22, 22] ty #[.slice a (m + j) c, .slice (some ⟨wr.heap.size, 0, none⟩) 1 1]).run Try.prog (wr.alloc (.cells #[.int .u32 z] 34)) = .ok v' W') ∧ ((∃ vs', W'.ownsRow 0 34 1 v' (m + (j + 1)) vs') ∧ Grew wo (.slice (some ⟨B, 0, none⟩) m cap) W' v')) := fun z => by
            obtain ⟨v', W', h1, h2, h3, h4⟩ := append_word z (.slice a (m + j) c) _ _ hO (by have := HB.out; omega)
            exact ⟨v', W', h1, ⟨_, by rw [← Nat.add_assoc]; exact h2⟩, hG.trans ⟨h3, h4⟩⟩
          have HJ : Hid (j < 72) := hlt
          clear hO hG hj hlt
          go_wp2_with (at_builtin; go_must (refine wpList_append_ex rfl _ _ 22 22 rfl (.slice a (m + j) c) wr rfl rfl (fun v' W' => (∃ vs', W'.ownsRow 0 34 1 v' (m + (j + 1)) vs') ∧ Grew wo (.slice (some ⟨B, 0, none⟩) m cap) W' v') HAP.out _ ?_; intro v' W' hR2; refine Hid.out ?_))
          unfold Hid
          have HR2 : Hid ((∃ vs', W'.ownsRow 0 34 1 v' (m + (j + 1)) vs') ∧ Grew wo (.slice (some ⟨B, 0, none⟩) m cap) W' v') := hR2
          clear hR2
          go_wp2
          go_roundw
          case rel =>
            obtain ⟨⟨vs', h1⟩, h2⟩ := HR2.out
            exact ⟨j + 1, vs', by have := HJ.out; omega, by go_num, h1, h2⟩
          case measure => have := HJ.out; simp [intOf]; omega
        · obtain rfl : j = 72 := by omega
          have HR2 : Hid (Keeps (· = B) w wr) := by
            refine HR.out.2.trans (hG.keeps.mono (T := (· = B)) fun b hb he => ?_) fun _ _ h => h
            simpa [Value.ownBlock] using he
          clear hO hG hj hlt
          go_wp2
          go_end0
          exact ⟨rfl, HR2.out⟩

end Go.Proofs.Ytfcgpjojjehkiaa
