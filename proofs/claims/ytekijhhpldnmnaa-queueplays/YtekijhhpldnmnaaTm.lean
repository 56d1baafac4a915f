import Derived.Test.YtekijhhpldnmnaaTl
import Derived.Test.YtekijhhpldnmnaaTk
namespace Go.Proofs.Ytekijhhpldnmnaa
open Go.RowKit
set_option linter.unusedVariables false
set_option linter.unusedSimpArgs false

theorem lay_snoc (l : List UInt32) (q : Nat) (ys : List UInt32) (y : UInt32) (h : q + ys.length < l.length) : (lay l q ys).set (q + ys.length) y = lay l q (ys ++ [y]) := by
  apply List.ext_getElem?
  intro i
  have hl : (lay l q ys).length = l.length := lay_length _ _ _ (by omega)
  rw [lay_get? l q (ys ++ [y]) (by simp; omega) i]
  by_cases e : q + ys.length = i
  · subst e
    rw [List.getElem?_set_self (by omega), if_pos (by simp)]
    simp
  · rw [List.getElem?_set_ne e, lay_get? l q ys (by omega) i]
    by_cases h1 : q ≤ i ∧ i < q + ys.length
    · rw [if_pos h1, if_pos (by simp; omega), List.getElem?_append_left (by omega)]
    · rw [if_neg h1, if_neg (by simp; omega)]
theorem lay_nil (l : List UInt32) (q : Nat) : lay l q [] = l := by simp [lay]
theorem lay_takes (l : List UInt32) (q : Nat) (m : List UInt32) (j : Nat) (hj : j < m.length) (h : q + m.length ≤ l.length) : (lay l q (m.take j)).set (q + j) (wd m j) = lay l q (m.take (j + 1)) := by
  have e : (m.take j).length = j := by simp; omega
  have := lay_snoc l q (m.take j) (wd m j) (by omega)
  rw [e] at this
  rw [this, List.take_add_one, List.getElem?_eq_getElem hj, wd_get hj]
  rfl
theorem lay_zeros (l : List UInt32) (q j : Nat) (h : q + j < l.length) : (lay l q (List.replicate j 0)).set (q + j) 0 = lay l q (List.replicate (j + 1) 0) := by
  have := lay_snoc l q (List.replicate j 0) 0 (by simp; omega)
  rw [List.length_replicate] at this
  rw [this, List.replicate_succ']
theorem win_lay_sub (xs : List UInt32) (q : Nat) (F : List UInt32) (a k : Nat) (h : a + k ≤ F.length) (hf : q + F.length ≤ xs.length) : win (lay xs q F) (q + a) k = win F a k := by
  apply List.ext_getElem?
  intro i
  rw [win_get? _ _ k i, win_get? F a k i]
  by_cases hi : i < k
  · rw [if_pos hi, if_pos hi, lay_get? _ _ _ hf, if_pos (by omega), show q + a + i - q = a + i by omega]
  · rw [if_neg hi, if_neg hi]
theorem lay_lay_sub (xs : List UInt32) (q : Nat) (F : List UInt32) (a : Nat) (P : List UInt32) (h : a + P.length ≤ F.length) (hf : q + F.length ≤ xs.length) : lay (lay xs q F) (q + a) P = lay xs q (lay F a P) := by
  apply List.ext_getElem?
  intro i
  have hl : (lay F a P).length = F.length := lay_length _ _ _ h
  have hl2 : (lay xs q F).length = xs.length := lay_length _ _ _ hf
  rw [lay_get? (lay xs q F) (q + a) P (by omega) i, lay_get? xs q (lay F a P) (by omega) i, hl]
  by_cases h1 : q + a ≤ i ∧ i < q + a + P.length
  · rw [if_pos h1, if_pos (by omega), lay_get? F a P h, if_pos (by omega), show i - q - a = i - (q + a) by omega]
  · rw [if_neg h1, lay_get? xs q F hf]
    by_cases h2 : q ≤ i ∧ i < q + F.length
    · rw [if_pos h2, if_pos h2, lay_get? F a P h, if_neg (by omega)]
    · rw [if_neg h2, if_neg h2]
theorem flat_none (n d f : Nat) : flat (plsW n d f []) = List.replicate (d * (1 + n)) 0 := by
  unfold plsW flat
  rw [List.eq_replicate_iff]
  constructor
  · have := flat_length (L := 1 + n) ((List.range d).map fun k => plO n (([] : List (List UInt32))[idx d f k]?)) (fun p hp => by
      obtain ⟨k, _, rfl⟩ := List.mem_map.1 hp
      simp [plO])
    unfold flat at this
    rw [this]; simp
  · intro b hb
    obtain ⟨l, hl, hbl⟩ := List.mem_flatten.1 hb
    obtain ⟨k, _, rfl⟩ := List.mem_map.1 hl
    simp [plO] at hbl
    exact hbl
section
variable {xs : List UInt32} {q n d f : Nat} {ms : List (List UInt32)}
theorem flat_len (hl : ∀ m ∈ ms, m.length ≤ n) : (flat (plsW n d f ms)).length = d * (1 + n) := by
  rw [flat_length (L := 1 + n) _ (plsW_one hl), plsW_length]
theorem lay_step (hl : ∀ m ∈ ms, m.length ≤ n) (hq : q + d * (1 + n) ≤ xs.length) (hf : f < d) (hd : ms.length ≤ d) {i : Nat} {m : List UInt32} (hi : ms[i]? = some m) :
    lay ((lay xs q (flat (plsW n d f (ms.take i)))).set (q + pos d f i * (1 + n)) (UInt32.ofNat m.length)) (q + pos d f i * (1 + n) + 1) m = lay xs q (flat (plsW n d f (ms.take (i + 1)))) := by
  have hil : i < ms.length := (List.getElem?_eq_some_iff.1 hi).1
  have hmm : m.length ≤ n := hl m (List.mem_of_getElem? hi)
  have htl : (ms.take i).length = i := by simp; omega
  have hl' : ∀ m ∈ ms.take i, m.length ≤ n := fun m h => hl m (List.mem_of_mem_take h)
  have hfl := flat_len (d := d) (f := f) hl'
  have hp := pos_lt hf (show i < d by omega)
  have e1 := Nat.mul_le_mul hp (Nat.le_refl (1 + n))
  rw [Nat.succ_mul] at e1
  have hz : win (lay xs q (flat (plsW n d f (ms.take i)))) (q + pos d f i * (1 + n)) (1 + n) = List.replicate (1 + n) 0 := by
    rw [win_lay_sub _ _ _ _ _ (by omega) (by omega), win_flat (L := 1 + n) _ (plsW_one hl') _ (by rw [plsW_length]; exact hp), plsW_get, idx_pos hf (by omega), List.getElem?_eq_none (by omega)]
    rfl
  have hll : (lay xs q (flat (plsW n d f (ms.take i)))).length = xs.length := lay_length _ _ _ (by omega)
  rw [lay_push _ _ n _ _ hz (by omega) hmm, lay_lay_sub _ _ _ _ _ (by simp; omega) (by omega)]
  congr 1
  have e2 : UInt32.ofNat m.length :: (m ++ List.replicate (n - m.length) 0) = plW n m := rfl
  rw [e2, lay_flat (L := 1 + n) _ (plsW_one hl') _ (by rw [plsW_length]; exact hp) _ (plW_length hmm)]
  have e3 : ms.take (i + 1) = ms.take i ++ [m] := by rw [List.take_add_one, hi]; rfl
  have := plsW_push (n := n) (d := d) (f := f) (ms := ms.take i) (m := m) hf (by omega)
  rw [htl] at this
  rw [e3, this]
end
/-- Messages whose words lie in blocks of a kind. -/
def MsS (S : Nat → Prop) (w : World) (v : Value) (ms : List (List UInt32)) : Prop :=
  ∃ vals : List Value, RowO w v vals ∧ vals.length = ms.length ∧
    ∀ (j : Nat) (m : List UInt32), ms[j]? = some m → ∃ B : Nat, S B ∧ vals[j]? = some (Value.slice (some ⟨B, 0, none⟩) m.length m.length) ∧ Blk w B (wvs m) 52
theorem MsS.form {S : Nat → Prop} {w : World} {v : Value} {ms : List (List UInt32)} (h : MsS S w v ms) : ∃ a c, v = .slice a ms.length c ∧ c ≤ maxLen ∧ ms.length ≤ c := by
  obtain ⟨vals, h1, h3, h4⟩ := h
  obtain ⟨a, c, q1, q2, q3, q4⟩ := h1.form
  exact ⟨a, c, by rw [← h3]; exact q1, q2, by omega⟩
theorem MsS.at {G : Nat} {w : World} {a : Option Addr} {L c : Nat} {ms : List (List UInt32)} {l : List Value} (h : MsS (· ≠ G) w (.slice a L c) ms) (hG : Blk w G l 52) {i : Nat} {m : List UInt32} (hi : ms[i]? = some m) :
    ∃ g o B, a = some ⟨g, o, none⟩ ∧ ∀ wr, Keeps (· = G) w wr → wr.cell? ⟨g, o + i, none⟩ = some (.slice (some ⟨B, 0, none⟩) m.length m.length) ∧ Blk wr B (wvs m) 52 := by
  obtain ⟨vals, h1, h3, h4⟩ := h
  obtain ⟨B, q1, q2, q3⟩ := h4 i m hi
  obtain ⟨g, o, rfl, hc⟩ := h1.at q2
  obtain ⟨lg, hlg⟩ := h1.blk (b := g) rfl
  exact ⟨g, o, B, rfl, fun wr hk => ⟨cell_kept hc hk (hlg.ne hG (by decide)), q3.kept hk q1⟩⟩

end Go.Proofs.Ytekijhhpldnmnaa
