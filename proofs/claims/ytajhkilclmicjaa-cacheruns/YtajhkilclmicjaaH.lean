import Derived.Test.YtajhkilclmicjaaG
import Derived.Test.YtajhkilclmicjaaApp
import Derived.LaidEqlPtr
namespace Go.Proofs.Ytajhkilclmicjaa
open Go.RowKit Go.Shelf
set_option linter.unusedVariables false

def flat (ks : List Int) : List Value := ks.map (Value.int .i64)
theorem flat_append (a b : List Int) : flat (a ++ b) = flat a ++ flat b := by simp [flat]
theorem flat_get (ks : List Int) (i : Nat) (k : Int) (h : ks[i]? = some k) : (flat ks)[i]? = some (.int .i64 k) := by simp [flat, h]
theorem flat_length (ks : List Int) : (flat ks).length = ks.length := by simp [flat]

def slen : Value → Nat | .slice _ n _ => n | _ => 0
theorem slen_owns {w : World} {e : TypeId} {size n : Nat} {v : Value} {vs : List Value} (h : w.ownsRow 0 e size v n vs) : slen v = n := by
  rcases h.2 with ⟨rfl, rfl⟩ | ⟨g, cap, cur, rfl, _⟩ <;> rfl

theorem Try.infoI : (Try.prog.info? 78).map (fun i => (i.zero, i.size, i.bytes)) = some (some (.agg #[.int .i64 0]), 1, 16) := by kernel_rfl

theorem append_item {w : World} (k : Int) (v : Value) (n : Nat) (vs : List Value) (hown : w.ownsRow 0 78 1 v n vs) (hn : n ≤ 1048576) :
    ∃ v' W', (∀ ty, (Builtin.append_ #[87, 87] ty #[v, .slice (some ⟨w.heap.size, 0, none⟩) 1 1]).run Try.prog (w.alloc (.cells #[.int .i64 k] 78)) = .ok v' W') ∧ W'.ownsRow 0 78 1 v' (n + 1) (vs ++ [.int .i64 k]) ∧ Grew w v W' v' := by
  obtain ⟨i0, hi, hz0, hz1, hz2⟩ := info_parts Try.infoI
  obtain ⟨v', W', h1, h2, h3, h4⟩ := append_new 87 78 i0 (.agg #[.int .i64 0]) 1 16 Try.underlying87 hi hz0 hz1 hz2 rfl (by omega) v n vs hown #[.int .i64 k] rfl (by
    intro x hx
    simp at hx
    subst hx
    rfl) (by unfold maxLen; omega) (by omega)
  exact ⟨v', W', h1, h2, h3, h4⟩

theorem run_neq_ptr_same {P : Program} (w : World) {tp te : TypeId} {j : TypeInfo} (a : Addr) (hp : P.underlying tp = some (.pointer te)) (hte : P.info? te = some j) :
    (binOp .neq tp (.pointer (some a)) (.pointer (some a))).run P w = .ok (.bool false) w := by
  have h : ∀ d : Nat, (Op.equalIn (d + 1) tp (.pointer (some a)) (.pointer (some a))).run P w = .ok true w := fun d => by
    simp [Op.equalIn, run_underlying hp, sizeOf, typeInfo, hte, run_sameAddr_same]
  simp only [binOp]
  simp [Op.equal, Op.maxDepth, h 9999]

theorem run_neq_ptr_other {P : Program} (w : World) {tp te : TypeId} {j : TypeInfo} {a b : Addr} {ca cb : Array Value} {ta tb : TypeId} (hp : P.underlying tp = some (.pointer te)) (hte : P.info? te = some j) (hsz : j.size ≠ 0)
    (hne : a ≠ b) (ha : w.heap[a.block]? = some (.cells ca ta (0, 0))) (hb : w.heap[b.block]? = some (.cells cb tb (0, 0))) :
    (binOp .neq tp (.pointer (some a)) (.pointer (some b))).run P w = .ok (.bool true) w := by
  have h : ∀ d : Nat, (Op.equalIn (d + 1) tp (.pointer (some a)) (.pointer (some b))).run P w = .ok false w := fun d => by
    simp [Op.equalIn, run_underlying hp, sizeOf, typeInfo, hte, hsz, run_sameAddr_other w hne ha hb]
  simp only [binOp]
  simp [Op.equal, Op.maxDepth, h 9999]

theorem Try.infoP : (Try.prog.info? 80).map (fun i => (i.size)) = some 3 := by kernel_rfl
theorem Try.undPP : Try.prog.underlying 76 = some (.pointer 80) := by kernel_rfl
theorem neq_other {w : World} {x e : N} {xs : List N} {nw od : Nat → Nat} (h : Rg w 80 e xs nw od) (hx : x ∈ xs) (hne : x.blk ≠ e.blk) : (binOp .neq 76 (ptr x.blk) (ptr e.blk)).run Try.prog w = .ok (.bool true) w := by
  have hi := Try.infoP
  cases hq : Try.prog.info? 80 with
  | none => rw [hq] at hi; simp at hi
  | some j =>
    rw [hq] at hi
    simp at hi
    exact run_neq_ptr_other w Try.undPP hq (by omega) (fun he => hne (congrArg Addr.block he)) (h.nodes x (by simp [hx])) (h.nodes e (by simp))
theorem neq_same (w : World) (b : Nat) : (binOp .neq 76 (ptr b) (ptr b)).run Try.prog w = .ok (.bool false) w := by
  have hi := Try.infoP
  cases hq : Try.prog.info? 80 with
  | none => rw [hq] at hi; simp at hi
  | some j => exact run_neq_ptr_same w _ Try.undPP hq

set_option maxHeartbeats 1000000 in
theorem items_any (s room : Nat) (ks : List Int) (F : Nat → Prop) (w : World) (h : Sf w s room ks F) :
    Calls Try.prog 48 #[ptr s] w fun r w' => ∃ v g, r = .returned v ∧ w'.ownsRow 0 78 1 v ks.length (flat ks) ∧ v.ownBlock = some g ∧ w.heap.size ≤ g ∧ Keeps (fun _ => False) w w' := by
  obtain ⟨m, e, xs, nw, od, h1, rfl, h3, h4⟩ := h
  obtain ⟨L, hL⟩ : ∃ L, L = xs.length := ⟨_, rfl⟩
  have hL1 : L ≤ 4096 := by have := h1.fits; have := h1.hi; omega
  obtain ⟨W1, hW1⟩ : ∃ W1, W1 = w.alloc (.cells (madeCells (Value.agg #[.int .i64 0]).cells (L * 1)) 78) := ⟨_, rfl⟩
  have HM : Hid ((Instr.makeSlice 87 (.int .i64 0) (.int .i64 L)).run Try.prog w = .ok (.slice (some ⟨w.heap.size, 0, none⟩) 0 L) W1) := by
    obtain ⟨i0, hi, hz0, hz1, hz2⟩ := info_parts Try.infoI
    have h := run_make (P := Try.prog) w 87 78 i0 _ Try.underlying87 hi hz0 .i64 .i64 0 L (by omega) (by omega) (by rw [hz2]; omega) (by omega)
    rw [hz1] at h
    simp only [Int.toNat_zero, Int.toNat_natCast] at h
    rw [hW1]; exact h
  have hown0 : W1.ownsRow 0 78 1 (.slice (some ⟨w.heap.size, 0, none⟩) 0 L) 0 [] := by
    rw [hW1]
    exact World.ownsRow_made w _ L (Nat.zero_le _) (by unfold maxLen; omega) (by simp [madeCells])
  have hK1 : Keeps (fun _ => False) w W1 := by rw [hW1]; exact (Keeps.refl _ w).alloc _
  have HL : Hid (∀ ty, (Builtin.len_ #[81] ty #[.map (some m)]).run Try.prog w = .ok (.int .i64 L) w) := fun ty => by
    have := h1.map.len (ty := ty) Try.underlying81
    rw [show (mapOf xs).length = L by rw [hL]; simp [mapOf]] at this
    exact this
  have hS1 := h1.kept hK1 fun _ _ h => h
  have c1 := h1.cells.2.1
  have c2 := hS1.cells.2.2
  have c3 := hS1.first
  obtain ⟨p0, hp0⟩ : ∃ p0, p0 = atN e xs 0 := ⟨_, rfl⟩
  rw [← hp0] at c3
  have HS : Hid (Sh Try.prog T w s m e room xs nw od ∧ Keeps (fun _ => False) w W1 ∧ W1.ownsRow 0 78 1 (.slice (some ⟨w.heap.size, 0, none⟩) 0 L) 0 [] ∧ p0 = atN e xs 0 ∧ L = xs.length ∧ L ≤ 4096) := ⟨h1, hK1, hown0, hp0, hL, hL1⟩
  clear h1 hS1 hK1 hown0 hp0 h3 h4 hW1 hL hL1
  go_enter Try.func48, Try.ntmps48
  go_wp2_with (first
    | (at_len; refine wpList_len_run rfl (.tmp 10) 81 rfl (.map (some m)) (.int .i64 L) rfl HL.out ?_)
    | (at_make; refine wpList_make_run rfl _ _ 87 rfl (.int .i64 0) (.int .i64 L) (.slice (some ⟨w.heap.size, 0, none⟩) 0 L) W1 rfl rfl HM.out ?_; refine Hid.out ?_))
  unfold Hid
  clear HL HM c1
  go_wp2
  clear c2 c3
  go_loopw [3, 4] (fun o p wr => ∃ j : Nat, j ≤ L ∧ p = ptr (atN e xs j) ∧ wr.ownsRow 0 78 1 o j (flat ((xs.map N.key).take j)) ∧ Grew W1 (.slice (some ⟨w.heap.size, 0, none⟩) 0 L) wr o) (fun o _ _ => L - slen o)
  case atStart => exact ⟨0, by omega, by rw [HS.out.2.2.2.1], by simpa [flat] using HS.out.2.2.1, Grew.refl _ _⟩
  case round =>
    obtain ⟨j, hj, rfl, hB, hG⟩ := hrel
    obtain ⟨h1, hK1, hown0, hp0, hL, hL1⟩ := HS.out
    have hKr : Keeps (fun _ => False) w wr := hK1.trans hG.keeps fun b hb he => by simp [Value.ownBlock] at he; omega
    have hSr := h1.kept hKr fun _ _ h => h
    have c2 := hSr.cells.2.2
    by_cases hlt : j < L
    · obtain ⟨x, hx⟩ : ∃ x, xs[j]? = some x := ⟨_, List.getElem?_eq_getElem (by omega)⟩
      obtain ⟨a1, a2, a3, a5⟩ := hSr.next j x hx
      obtain ⟨v', W', happ, hown', hfr'⟩ := append_item x.key u3 j _ hB (by omega)
      have hKw : Keeps (fun _ => False) w W' := hKr.trans hfr'.keeps fun b hb he => by
        rcases hG.fresh with f | ⟨c, f, hc⟩
        · rw [f] at he; simp [Value.ownBlock] at he; omega
        · rw [f] at he; cases he; have := hK1.size; omega
      have hSw := h1.kept hKw fun _ _ h => h
      obtain ⟨_, b2, _, _⟩ := hSw.next j x hx
      have hs2 := slen_owns hown'
      have hs1 := slen_owns hB
      have HAP : Hid (∀ ty, _) := happ
      have HR : Hid (W'.ownsRow 0 78 1 v' (j + 1) (flat ((xs.map N.key).take (j + 1)))) := by
        have e1 : (xs.map N.key).take (j + 1) = (xs.map N.key).take j ++ [x.key] := by
          rw [List.take_add_one]; simp [hx]
        rw [e1, flat_append, show flat [x.key] = [.int .i64 x.key] by simp [flat]]
        exact hown'
      have HG : Hid (Grew W1 (.slice (some ⟨w.heap.size, 0, none⟩) 0 L) W' v') := hG.trans hfr'
      have hq := neq_other hSr.ring (List.mem_of_getElem? hx) a5
      have HL2 : Hid (slen v' = j + 1 ∧ slen u3 = j ∧ j < L) := ⟨hs2, hs1, hlt⟩
      rw [a1]
      obtain ⟨b, hb⟩ : ∃ b, b = x.blk := ⟨_, rfl⟩
      obtain ⟨k, hk⟩ : ∃ k, k = x.key := ⟨_, rfl⟩
      obtain ⟨eb, heb⟩ : ∃ eb, eb = e.blk := ⟨_, rfl⟩
      obtain ⟨nb, hnb⟩ : ∃ nb, nb = atN e xs (j + 1) := ⟨_, rfl⟩
      rw [← hb] at a2 a3 a5 b2 hq ⊢
      rw [← heb] at c2 a5 hq
      rw [← hk] at a3
      rw [← hk] at HAP
      rw [← hnb] at b2
      have HN : Hid (nb = atN e xs (j + 1)) := hnb
      clear happ hown' hfr' hB hG h1 hK1 hown0 hp0 hL hL1 hKr hSr hKw hSw hs1 hs2 hx a1 a2 hb hk heb hnb hlt
      go_wp2_with (at_builtin; go_must (refine wpList_append_run rfl (.tmp 30) (.tmp 35) 87 87 rfl u3 (.slice (some ⟨wr.heap.size, 0, none⟩) 1 1) v' W' rfl rfl HAP.out ?_; refine Hid.out ?_))
      unfold Hid
      clear c2 a3 hq
      go_wp2
      go_roundw
      case rel => exact ⟨j + 1, by have := HL2.out.2.2; omega, by rw [HN.out], HR.out, HG.out⟩
      case measure => have := HL2.out; omega
    · obtain rfl : j = L := by omega
      rw [show atN e xs j = e.blk by rw [hL]; exact atN_end e xs]
      have HB : Hid (wr.ownsRow 0 78 1 u3 (xs.map N.key).length (flat (xs.map N.key))) := by
        have e1 : (xs.map N.key).take j = xs.map N.key := List.take_of_length_le (by simp; omega)
        rw [e1] at hB
        rw [List.length_map, ← hL]
        exact hB
      have HG : Hid ((∃ g, u3.ownBlock = some g ∧ w.heap.size ≤ g) ∧ Keeps (fun _ => False) w wr) := by
        refine ⟨?_, hKr⟩
        rcases hG.fresh with f | ⟨c, f, hc⟩
        · exact ⟨w.heap.size, f, Nat.le_refl _⟩
        · exact ⟨c, f, by have := hK1.size; omega⟩
      obtain ⟨eb, heb⟩ : ∃ eb, eb = e.blk := ⟨_, rfl⟩
      rw [← heb] at c2 ⊢
      have hq := neq_same wr eb
      clear hB hG h1 hK1 hown0 hp0 hL hL1 hKr hSr heb
      go_wp2
      go_ret
      obtain ⟨⟨g, hg1, hg2⟩, hK⟩ := HG.out
      exact ⟨u3, g, rfl, HB.out, hg1, hg2, hK⟩

end Go.Proofs.Ytajhkilclmicjaa
