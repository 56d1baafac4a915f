import Derived.Test.YtomjodoimjiceaaDoorApp
import Derived.Test.YtomjodoimjiceaaDoorJI
import Derived.Test.YtomjodoimjiceaaDoorGS
import Derived.Test.YtomjodoimjiceaaDoorGQ
namespace Go.Proofs.YtomjodoimjiceaaDoor
open Go.RowKit Go.Shelf
set_option linter.unusedVariables false
set_option maxRecDepth 6000

def sv (l : List ByteArray) : List Value := l.map Value.string
theorem sv_append (a b : List ByteArray) : sv (a ++ b) = sv a ++ sv b := by simp [sv]
theorem sv_get {l : List ByteArray} {i : Nat} {t : ByteArray} (h : l[i]? = some t) : (sv l)[i]? = some (.string t) := by simp [sv, h]

theorem Tryd.infoS : (Tryd.prog.info? 9).map (fun i => (i.zero, i.size, i.bytes)) = some (some (.string ⟨#[]⟩), 1, 16) := by kernel_rfl

theorem append_str {w : World} (t : ByteArray) (v : Value) (n : Nat) (vs : List Value) (hown : w.ownsRow 0 9 1 v n vs) (hn : n ≤ 1048576) :
    ∃ v' W', (∀ ty, (Builtin.append_ #[58, 58] ty #[v, .slice (some ⟨w.heap.size, 0, none⟩) 1 1]).run Tryd.prog (w.alloc (.cells #[.string t] 9)) = .ok v' W') ∧ W'.ownsRow 0 9 1 v' (n + 1) (vs ++ [.string t]) ∧ Grew w v W' v' := by
  obtain ⟨i0, hi, hz0, hz1, hz2⟩ := info_parts Tryd.infoS
  obtain ⟨v', W', h1, h2, h3, h4⟩ := append_new 58 9 i0 (.string ⟨#[]⟩) 1 16 Tryd.underlying58 hi hz0 hz1 hz2 rfl (by omega) v n vs hown #[.string t] rfl (by
    intro x hx
    simp at hx
    subst hx
    rfl) (by unfold maxLen; omega) (by omega)
  exact ⟨v', W', h1, h2, h3, h4⟩

/-- The document's shelf in block b. -/
structure Rf (w : World) (b N : Nat) (ks vs : List ByteArray) (u v : Value) (F : Nat → Prop) : Prop where
  blk : Blk w b [.int .i64 N, u, v] 60
  kr : w.ownsRow 0 9 1 u ks.length (sv ks)
  vr : w.ownsRow 0 9 1 v vs.length (sv vs)
  len : vs.length = ks.length
  fits : ks.length ≤ N
  hi : N ≤ 4096
  fu : ∀ g, u.ownBlock = some g → F g ∧ g ≠ b
  fv : ∀ g, v.ownBlock = some g → F g ∧ g ≠ b ∧ u.ownBlock ≠ some g
  fb : F b
  lt : ∀ k, F k → k < w.heap.size

theorem Rf.kept {S : Nat → Prop} {w w' : World} {b N : Nat} {ks vs : List ByteArray} {u v : Value} {F : Nat → Prop} (h : Rf w b N ks vs u v F) (hK : Keeps S w w') (hS : ∀ k, F k → ¬ S k) : Rf w' b N ks vs u v F :=
  { h with blk := h.blk.kept hK (hS b h.fb), kr := owns_kept h.kr hK fun k e => hS k (h.fu k e).1, vr := owns_kept h.vr hK fun k e => hS k (h.fv k e).1, lt := fun k hk => Nat.lt_of_lt_of_le (h.lt k hk) hK.size }

theorem owns_slice {w : World} {v : Value} {n : Nat} {xs : List Value} (h : w.ownsRow 0 9 1 v n xs) : ∃ a cap, v = .slice a n cap ∧ ∀ i x, xs[i]? = some x → ∃ g, a = some ⟨g, 0, none⟩ ∧ w.cell? ⟨g, i, none⟩ = some x := by
  rcases h.2 with ⟨rfl, rfl⟩ | ⟨g, cap, cur, rfl, _⟩
  · refine ⟨none, 0, rfl, fun i x hx => ?_⟩
    have h1 := h.1
    have := (List.getElem?_eq_some_iff.1 hx).1
    omega
  · refine ⟨some ⟨g, 0, none⟩, cap, rfl, fun i x hx => ⟨g, rfl, ?_⟩⟩
    have := h.cells rfl i x hx
    rw [addr_add] at this
    simpa using this

theorem txt_ne {x k : ByteArray} (h : x ≠ k) : (x.toList == k.toList) = false := by
  rw [ByteArray.toList_eq, ByteArray.toList_eq]
  refine beq_eq_false_iff_ne.2 fun e => h ?_
  cases x; cases k
  simpa using e

/-- Where a key stands. -/
def Plc (k : ByteArray) (ks : List ByteArray) (p : Int) : Prop := (p = -1 ∧ ∀ x ∈ ks, x ≠ k) ∨ ∃ j : Nat, p = j ∧ ks[j]? = some k ∧ ∀ i, i < j → ks[i]? ≠ some k
theorem Plc.uniq {k : ByteArray} {ks : List ByteArray} {p q : Int} (h : Plc k ks p) (h' : Plc k ks q) : p = q := by
  rcases h with ⟨rfl, h⟩ | ⟨j, rfl, h1, h2⟩
  · rcases h' with ⟨rfl, _⟩ | ⟨j, rfl, h1, _⟩
    · rfl
    · exact absurd rfl (h k (List.mem_of_getElem? h1))
  · rcases h' with ⟨rfl, h⟩ | ⟨i, rfl, h3, h4⟩
    · exact absurd rfl (h k (List.mem_of_getElem? h1))
    · rcases Nat.lt_trichotomy j i with e | e | e
      · exact absurd h1 (h4 j e)
      · rw [e]
      · exact absurd h3 (h2 i e)

theorem place_any (b N : Nat) (ks vs : List ByteArray) (u v : Value) (F : Nat → Prop) (k : ByteArray) (w : World) (h : Rf w b N ks vs u v F) :
    Calls Tryd.prog 44 #[ptr b, .string k] w fun r w' => ∃ p, r = .returned (.int .i64 p) ∧ Plc k ks p ∧ w' = w := by
  obtain ⟨a, cap, rfl, hc⟩ := owns_slice h.kr
  have c1 := h.blk.cell (i := 1) rfl
  have HC : Hid (∀ i x, (sv ks)[i]? = some x → ∃ g, a = some ⟨g, 0, none⟩ ∧ w.cell? ⟨g, i, none⟩ = some x) := hc
  have hlb : (ks.length : Int) ≤ 4096 := by have h1 := h.fits; have h2 := h.hi; omega
  clear h hc
  go_enter Tryd.func44, Tryd.ntmps44
  go_wp2
  go_loopw [5] (fun i wr => ∃ j : Nat, j ≤ ks.length ∧ i = .int .i64 j ∧ wr = w ∧ ∀ m, m < j → ks[m]? ≠ some k) (fun i _ => ks.length - (intOf i).toNat)
  case atStart => exact ⟨0, by omega, rfl, rfl, fun m hm => by omega⟩
  case round =>
    obtain ⟨j, hj, rfl, hw, hall⟩ := hrel
    obtain rfl := hw.symm
    clear hw
    have HA : Hid (∀ m, m < j → ks[m]? ≠ some k) := hall
    by_cases hlt : j < ks.length
    · obtain ⟨x, hx⟩ : ∃ x, ks[j]? = some x := ⟨_, List.getElem?_eq_getElem hlt⟩
      obtain ⟨g, rfl, hg⟩ := HC.out j _ (sv_get hx)
      have HX : Hid (ks[j]? = some x) := hx
      have hji : (j : Int) < ks.length := by omega
      have hjb : (j : Int) ≤ 4096 := by omega
      clear hx hall
      by_cases he : x = k
      · subst he
        go_wp2
        go_ret
        exact ⟨_, rfl, .inr ⟨j, rfl, HX.out, HA.out⟩, rfl⟩
      · have f1 := txt_ne he
        go_wp2
        go_roundw
        case rel => exact ⟨j + 1, by omega, by go_num, trivial, fun m hm e => by
          by_cases em : m = j
          · subst em; rw [HX.out] at e; exact he (Option.some.inj e)
          · exact HA.out m (by omega) e⟩
        case measure => simp [intOf]; omega
    · obtain rfl : j = ks.length := by omega
      clear hall
      go_wp2
      go_ret
      exact ⟨_, rfl, .inl ⟨rfl, fun x hx e => by
        obtain ⟨m, hm, e'⟩ := List.mem_iff_getElem.1 hx
        exact HA.out m hm (by rw [List.getElem?_eq_getElem hm, e', e])⟩, rfl⟩

end Go.Proofs.YtomjodoimjiceaaDoor
