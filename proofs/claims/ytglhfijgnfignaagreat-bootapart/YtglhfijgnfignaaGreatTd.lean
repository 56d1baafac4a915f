import Derived.Test.YtglhfijgnfignaaGreatPP
import Derived.Test.YtglhfijgnfignaaGreatKw
import Derived.Handy
import Derived.Test.YtglhfijgnfignaaGreatPTr
import Derived.Deep.CutBlock
import Derived.Deep.CutRange
import Derived.Test.YtglhfijgnfignaaGreatPLa
namespace Go.Proofs.YtglhfijgnfignaaGreat
namespace Mq
open Go.RowKit
set_option linter.unusedVariables false
set_option linter.unusedSimpArgs false
def _root_.Go.Proofs.YtglhfijgnfignaaGreat.Rgn.hasF (r : Rgn) (f : Nat) : Bool := decide (r.frame ≤ f) && decide ((f : Int) < r.frame + r.pages)
theorem hasF_iff {r : Rgn} {f : Nat} : r.hasF f = true ↔ r.frame ≤ f ∧ (f : Int) < r.frame + r.pages := by simp [Rgn.hasF]
theorem has_iff {r : Rgn} {p : Nat} : r.has p = true ↔ r.page ≤ p ∧ (p : Int) < r.page + r.pages := by simp [Rgn.has]
def pgOf (rs : List Rgn) (f : Nat) : Option Nat := (rs.find? fun r => r.hasF f).map fun r => (r.page + ((f : Int) - r.frame)).toNat
def ownW (rs : List Rgn) (ws : List UInt32) (i : Nat) (x : UInt32) : UInt32 := match pgOf rs (i / 16) with | some p => ws.getD (p * 16 + i % 16) 0 | none => x
def ownL (rs : List Rgn) (ws xs : List UInt32) : List UInt32 := xs.mapIdx fun i x => ownW rs ws i x
theorem ownL_length (rs : List Rgn) (ws xs : List UInt32) : (ownL rs ws xs).length = xs.length := by simp [ownL]
theorem ownL_get (rs : List Rgn) (ws xs : List UInt32) (i : Nat) : (ownL rs ws xs)[i]? = xs[i]?.map (ownW rs ws i) := by simp [ownL]
def FrU (rs : List Rgn) : Prop := ∀ f r s, r ∈ rs → s ∈ rs → r.hasF f = true → s.hasF f = true → r = s
def PgU (rs : List Rgn) : Prop := ∀ p r s, r ∈ rs → s ∈ rs → r.has p = true → s.has p = true → r = s
theorem pgOf_some {rs : List Rgn} {f p : Nat} (h : pgOf rs f = some p) : ∃ r, r ∈ rs ∧ r.hasF f = true ∧ p = (r.page + ((f : Int) - r.frame)).toNat := by
 unfold pgOf at h
 cases hf : rs.find? fun r => r.hasF f with
 | none => rw [hf] at h; cases h
 | some r =>
  rw [hf] at h
  exact ⟨r, List.mem_of_find?_eq_some hf, by simpa using List.find?_some hf, (Option.some.inj h).symm⟩
theorem pgOf_none {rs : List Rgn} {f : Nat} (h : pgOf rs f = none) : ∀ r, r ∈ rs → r.hasF f = false := by
 unfold pgOf at h
 cases hf : rs.find? fun r => r.hasF f with
 | none =>
  intro r hr
  have := List.find?_eq_none.1 hf r hr
  simpa using this
 | some r => rw [hf] at h; cases h
theorem pgOf_of {rs : List Rgn} (hu : FrU rs) {f : Nat} {r : Rgn} (hr : r ∈ rs) (hf : r.hasF f = true) : pgOf rs f = some (r.page + ((f : Int) - r.frame)).toNat := by
 cases h : pgOf rs f with
 | none => have := pgOf_none h r hr; rw [hf] at this; cases this
 | some p =>
  obtain ⟨s, hs, hsf, rfl⟩ := pgOf_some h
  rw [hu f s r hs hr hsf hf]
theorem findL_some {rs : List Rgn} {p : Nat} {x : Nat × Nat} (h : findL rs p = some x) : ∃ r, r ∈ rs ∧ r.has p = true ∧ x = ((r.frame + ((p : Int) - r.page)).toNat, r.rights.toNat) := by
 unfold findL at h
 cases hf : rs.find? fun r => r.has p with
 | none => rw [hf] at h; cases h
 | some r =>
  rw [hf] at h
  exact ⟨r, List.mem_of_find?_eq_some hf, by simpa using List.find?_some hf, (Option.some.inj h).symm⟩
theorem findL_none {rs : List Rgn} {p : Nat} (h : findL rs p = none) : ∀ r, r ∈ rs → r.has p = false := by
 unfold findL at h
 cases hf : rs.find? fun r => r.has p with
 | none =>
  intro r hr
  have := List.find?_eq_none.1 hf r hr
  simpa using this
 | some r => rw [hf] at h; cases h
theorem findL_of {rs : List Rgn} (hu : PgU rs) {p : Nat} {r : Rgn} (hr : r ∈ rs) (hf : r.has p = true) : findL rs p = some ((r.frame + ((p : Int) - r.page)).toNat, r.rights.toNat) := by
 cases h : findL rs p with
 | none => have := findL_none h r hr; rw [hf] at this; cases this
 | some x =>
  obtain ⟨s, hs, hsf, rfl⟩ := findL_some h
  rw [hu p s r hs hr hsf hf]
theorem pg_find {rs : List Rgn} (ho : ∀ r, r ∈ rs → r.ok) (hu : FrU rs) {p : Nat} {x : Nat × Nat} (h : findL rs p = some x) : pgOf rs x.1 = some p := by
 obtain ⟨r, hr, hp, rfl⟩ := findL_some h
 obtain ⟨h1, h2⟩ := has_iff.1 hp
 obtain ⟨o1, o2, o3, o4, o5, o6, o7⟩ := ho r hr
 have hf : r.hasF (r.frame + ((p : Int) - r.page)).toNat = true := hasF_iff.2 ⟨by omega, by omega⟩
 rw [pgOf_of hu hr hf]
 congr 1
 omega
theorem find_pg {rs : List Rgn} (ho : ∀ r, r ∈ rs → r.ok) (hu : PgU rs) {f p : Nat} (h : pgOf rs f = some p) : ∃ x, findL rs p = some x ∧ x.1 = f := by
 obtain ⟨r, hr, hf, rfl⟩ := pgOf_some h
 obtain ⟨h1, h2⟩ := hasF_iff.1 hf
 obtain ⟨o1, o2, o3, o4, o5, o6, o7⟩ := ho r hr
 have hp : r.has (r.page + ((f : Int) - r.frame)).toNat = true := has_iff.2 ⟨by omega, by omega⟩
 refine ⟨_, findL_of hu hr hp, ?_⟩
 simp only
 omega
theorem ownW_nil {rs : List Rgn} {i : Nat} {x : UInt32} : ownW rs [] i x = if rs.any (fun r => r.hasF (i / 16)) then 0 else x := by
 unfold ownW
 cases h : pgOf rs (i / 16) with
 | none =>
  have : rs.any (fun r => r.hasF (i / 16)) = false := by rw [List.any_eq_false]; intro r hr; rw [pgOf_none h r hr]; simp
  rw [this]; rfl
 | some p =>
  obtain ⟨r, hr, hf, _⟩ := pgOf_some h
  have : rs.any (fun r => r.hasF (i / 16)) = true := List.any_eq_true.2 ⟨r, hr, hf⟩
  rw [this]; simp
theorem own_fill {rs : List Rgn} {xs : List UInt32} {j : Nat} {r : Rgn} (hr : rs[j]? = some r) (ho : r.ok) (hf : (r.frame + r.pages) * 16 ≤ xs.length) :
  lay (ownL (rs.take j) [] xs) (r.frame.toNat * 16) (List.replicate (r.pages.toNat * 16) 0) = ownL (rs.take (j + 1)) [] xs := by
 obtain ⟨o1, o2, o3, o4, o5, o6, o7⟩ := ho
 refine List.ext_getElem? fun i => ?_
 rw [lay_get _ _ _ (by rw [ownL_length, List.length_replicate]; omega), ownL_get, ownL_get, List.length_replicate]
 have key : ∀ x, ownW (rs.take (j + 1)) [] i x = if r.frame.toNat * 16 ≤ i ∧ i < r.frame.toNat * 16 + r.pages.toNat * 16 then 0 else ownW (rs.take j) [] i x := by
  intro x
  rw [ownW_nil, ownW_nil, List.take_add_one, hr, List.any_append]
  by_cases h : r.frame.toNat * 16 ≤ i ∧ i < r.frame.toNat * 16 + r.pages.toNat * 16
  ·
   have : r.hasF (i / 16) = true := hasF_iff.2 ⟨by omega, by omega⟩
   rw [if_pos h]; simp [this]
  ·
   have : r.hasF (i / 16) = false := by
    rw [Bool.eq_false_iff]
    intro e
    obtain ⟨e1, e2⟩ := hasF_iff.1 e
    exact h ⟨by omega, by omega⟩
   rw [if_neg h]; simp [this]
 by_cases hi : i < xs.length
 ·
  rw [List.getElem?_eq_getElem hi]
  simp only [Option.map_some]
  rw [key]
  split
  ·
   rename_i h
   rw [List.getElem?_replicate, if_pos (by omega)]
  ·
   rfl
 ·
  have hnone : xs[i]? = none := List.getElem?_eq_none (by omega)
  rw [hnone, if_neg (by omega)]
  rfl
theorem own_write {rs : List Rgn} {ws xs : List UInt32} {k : Nat} {x : Nat × Nat} {y : UInt32} (ho : ∀ r, r ∈ rs → r.ok) (hu : FrU rs) (hp : PgU rs) (hx : findL rs (k / 16) = some x) (hb : x.1 * 16 + 16 ≤ xs.length) (hy : ws[k]? = some y) :
  lay (ownL rs (ws.take k) xs) (16 * x.1 + k % 16) [y] = ownL rs (ws.take (k + 1)) xs := by
 have hpx := pg_find ho hu hx
 refine List.ext_getElem? fun i => ?_
 rw [lay_get _ _ _ (by rw [ownL_length]; simp; omega), ownL_get, ownL_get]
 have key : ∀ z, ownW rs (ws.take (k + 1)) i z = if 16 * x.1 + k % 16 = i then y else ownW rs (ws.take k) i z := by
  intro z
  unfold ownW
  by_cases h : 16 * x.1 + k % 16 = i
  ·
   have e1 : i / 16 = x.1 := by omega
   have e2 : i % 16 = k % 16 := by omega
   rw [if_pos h, e1, hpx, e2]
   simp only
   rw [show k / 16 * 16 + k % 16 = k by omega]
   simp [List.getD, hy]
  ·
   rw [if_neg h]
   cases hq : pgOf rs (i / 16) with
   | none => rfl
   | some q =>
    simp only
    have hne : q * 16 + i % 16 ≠ k := by
     intro e
     have e1 : q = k / 16 := by omega
     subst e1
     obtain ⟨x', hx', hf'⟩ := find_pg ho hp hq
     rw [hx] at hx'
     obtain rfl := Option.some.inj hx'
     omega
    simp only [List.getD]
    rw [List.getElem?_take, List.getElem?_take]
    by_cases hl : q * 16 + i % 16 < k
    ·
     rw [if_pos (by omega), if_pos hl]
    ·
     rw [if_neg (by omega), if_neg hl]
 by_cases hi : i < xs.length
 ·
  rw [List.getElem?_eq_getElem hi]
  simp only [Option.map_some, List.length_cons, List.length_nil]
  rw [key]
  by_cases h : 16 * x.1 + k % 16 = i
  ·
   rw [if_pos (by omega), if_pos h, show i - (16 * x.1 + k % 16) = 0 by omega]; rfl
  ·
   rw [if_neg (by omega), if_neg h]
 ·
  have hnone : xs[i]? = none := List.getElem?_eq_none (by omega)
  rw [hnone, if_neg (by simp; omega)]
  rfl
def LiesP (rs : List Rgn) (ws : List UInt32) : Prop := ws.length ≤ 1024 ∧ ∀ i, i < ws.length → (findL rs (i / 16)).isSome = true
end Mq
end Go.Proofs.YtglhfijgnfignaaGreat
namespace Go.Proofs.YtglhfijgnfignaaGreat
namespace Mq
open Go.RowKit
set_option linter.unusedVariables false
set_option linter.unusedSimpArgs false
attribute [local go_sem] Oper.semAt_some
def plV (rs : List Rgn) (i : Nat) : Nat := match findL rs (i / 16) with | some x => 16 * x.1 + i % 16 | none => 0
set_option maxHeartbeats 2000000 in
theorem place_any (a : Option Addr) (rs : List Rgn) (c i : Nat) (w : World) (hl : rs.length ≤ c ∧ c ≤ maxLen) (hs : SegR w a rs) (ho : ∀ r, r ∈ rs → r.ok) (hi : i < 4096) :
  Calls Tryz.prog 71 #[.slice a rs.length c, .int .i64 i] w fun e w' => e = .returned (.tuple #[.int .i64 (plV rs i), .bool (findL rs (i / 16)).isSome]) ∧ Keeps (fun _ => False) w w' := by
 obtain ⟨L, hL⟩ : ∃ L, L = rs.length := ⟨_, rfl⟩
 have hc2 : (L : Int) ≤ c := by omega
 have hc3 : (c : Int) ≤ 9223372036854775807 := by unfold maxLen at hl; omega
 obtain ⟨p, hp⟩ : ∃ p, p = i / 16 := ⟨_, rfl⟩
 obtain ⟨q, hq⟩ : ∃ q, q = i % 16 := ⟨_, rfl⟩
 have hd : ((i : Nat) : Int).tdiv 16 = (p : Int) := by rw [Int.tdiv_eq_ediv_of_nonneg (by omega)]; omega
 have hm : ((i : Nat) : Int).tmod 16 = (q : Int) := by rw [Int.tmod_eq_emod_of_nonneg (by omega)]; omega
 have HS : Hid (SegR w a rs ∧ L = rs.length ∧ (∀ r, r ∈ rs → r.ok) ∧ p = i / 16 ∧ q = i % 16) := ⟨hs, hL, ho, hp, hq⟩
 have hp' : (p : Int) < 256 := by omega
 have hq' : (q : Int) < 16 := by omega
 have hi' : (i : Int) < 4096 := by omega
 rw [← hL]
 clear hl hs hL ho hp hq hi
 go_enter Tryz.func71, Tryz.ntmps71
 go_wp2
 go_loopw [13] (fun k wr => ∃ j : Nat, j ≤ L ∧ k = .int .i64 j ∧ (rs.take j).find? (fun r => r.has p) = none ∧ Keeps (fun _ => False) w wr) (fun k _ => L - (intOf k).toNat)
 case atStart => exact ⟨0, by omega, rfl, by simp, Keeps.refl _ _⟩
 case round =>
  obtain ⟨j, hj, rfl, hn, hK⟩ := hrel
  by_cases hlt2 : j < L
  ·
   obtain ⟨y, hy⟩ : ∃ y, rs[j]? = some y := ⟨_, List.getElem?_eq_getElem (by have := HS.out.2.1; omega)⟩
   obtain ⟨g, o, rfl, hg⟩ := HS.out.1.at hy
   obtain ⟨y0, y1, y2, y3⟩ := hg.kept hK fun h => h
   obtain ⟨h1, h2, h3, h4, h5, h6, h7⟩ := HS.out.2.2.1 y (List.mem_of_getElem? hy)
   have HJ : Hid ((rs.take j).find? (fun r => r.has p) = none ∧ rs[j]? = some y ∧ Keeps (fun _ => False) w wr) := ⟨hn, hy, hK⟩
   clear hn hy hK hg
   by_cases hh : y.has p = true
   ·
    have hb := has_bounds hh
    obtain ⟨hb1, hb2⟩ := hb
    have HF : Hid (findL rs p = some ((y.frame + ((p : Int) - y.page)).toNat, y.rights.toNat)) := by
     show findL rs p = _
     unfold findL; rw [find_take_hit HJ.out.1 HJ.out.2.1 hh]; rfl
    have HZ : Hid (((plV rs i : Nat) : Int) = (y.frame + (p : Int) - y.page) * 16 + q ∧ (findL rs (i / 16)).isSome = true) := by
     have e1 := HS.out.2.2.2.1
     have e2 := HS.out.2.2.2.2
     have e3 := HF.out
     unfold plV
     rw [← e1, e3]
     refine ⟨?_, rfl⟩
     simp only
     omega
    clear hh
    go_wp2
    go_ret2
    refine ⟨?_, HJ.out.2.2.alloc _⟩
    rw [HZ.out.1, HZ.out.2]
    rfl
   ·
    have hh := Bool.eq_false_iff.2 hh
    have HF : Hid ((rs.take (j + 1)).find? (fun r => r.has p) = none) := find_take_none HJ.out.1 HJ.out.2.1 hh
    by_cases hb1 : y.page ≤ p
    ·
     have hb2 : ¬ (p : Int) < y.page + y.pages := fun e => by
      have : y.has p = true := by simp [Rgn.has]; omega
      rw [hh] at this; cases this
     clear hh
     go_wp2
     go_roundw
     case rel => exact ⟨j + 1, by omega, by go_num, HF.out, HJ.out.2.2.alloc _⟩
     case measure => simp [intOf]; omega
    ·
     clear hh
     go_wp2
     go_roundw
     case rel => exact ⟨j + 1, by omega, by go_num, HF.out, HJ.out.2.2.alloc _⟩
     case measure => simp [intOf]; omega
  ·
   obtain rfl : j = L := by omega
   have HF : Hid (plV rs i = 0 ∧ (findL rs (i / 16)).isSome = false) := by
    rw [List.take_of_length_le (by have := HS.out.2.1; omega)] at hn
    have e1 := HS.out.2.2.2.1
    have e2 : findL rs (i / 16) = none := by rw [← e1]; unfold findL; rw [hn]; rfl
    refine ⟨?_, by rw [e2]; rfl⟩
    unfold plV; rw [e2]
   have HK : Hid (Keeps (fun _ => False) w wr) := hK
   clear hn hK
   go_wp2
   go_ret2
   rw [HF.out.1, HF.out.2]
   exact ⟨rfl, HK.out⟩
end Mq
end Go.Proofs.YtglhfijgnfignaaGreat
namespace Go.Proofs.YtglhfijgnfignaaGreat
namespace Mq
open Go.RowKit Go.Shelf
set_option linter.unusedVariables false
set_option linter.unusedSimpArgs false
attribute [local go_sem] Oper.semAt_some
theorem places_any (a a2 : Option Addr) (n c n2 c2 : Nat) (w : World) :
  Calls Tryz.prog 43 #[.slice a n c, .slice a2 n2 c2] w fun e w' => e = .returned (.func (.func 70) #[] #[.pointer (some ⟨w.heap.size + 1, 0, none⟩), .pointer (some ⟨w.heap.size, 0, none⟩)]) ∧ Blk w' w.heap.size [.slice a n c] 50 ∧ Blk w' (w.heap.size + 1) [.slice a2 n2 c2] 43 ∧ Keeps (fun _ => False) w w' := by
 go_enter Tryz.func43, Tryz.ntmps43
 go_wp2
 go_ret
 refine ⟨by simp, (Blk.new w _ 50).alloc _, ?_, ((Keeps.refl _ w).alloc _).alloc _⟩
 have := Blk.new (w.alloc (.cells #[.slice a n c] 50)) #[.slice a2 n2 c2] 43
 rw [World.size_alloc] at this
 exact this
structure OnP (B1 B2 : Nat) (a : Option Addr) (rs : List Rgn) (c : Nat) (a2 : Option Addr) (ws : List UInt32) (c2 : Nat) (W : World) : Prop where
 p1 : W.cell? ⟨B1, 0, none⟩ = some (.slice a2 ws.length c2)
 p2 : W.cell? ⟨B2, 0, none⟩ = some (.slice a rs.length c)
 sr : SegR W a rs
 sw : SegW W a2 ws
structure OnH (rs : List Rgn) (c : Nat) (ws : List UInt32) (c2 : Nat) : Prop where
 lr : rs.length ≤ c ∧ c ≤ maxLen
 lw : ws.length ≤ c2 ∧ c2 ≤ maxLen
 ok : ∀ r, r ∈ rs → r.ok
 len : ws.length ≤ 1024
def TellP (rs : List Rgn) (ws : List UInt32) (s x : Nat) (W : World) : Prop := x = s ∧ s < ws.length ∧ (findL rs (s / 16)).isSome = true
def FinP (rs : List Rgn) (ws : List UInt32) (s : Nat) : Prop := s = ws.length ∨ s < ws.length ∧ (findL rs (s / 16)).isSome = false
def wdN (ws : List UInt32) (i : Nat) : Nat := (ws.getD i 0).toNat
def encP (rs : List Rgn) (ws : List UInt32) (x : Nat) : Array Value := #[.int .i64 (plV rs x), .int .u32 (wdN ws x)]
set_option maxRecDepth 20000 in
set_option maxHeartbeats 4000000 in
theorem places_tells (k : Nat) (B1 B2 : Nat) (a : Option Addr) (rs : List Rgn) (c : Nat) (a2 : Option Addr) (ws : List UInt32) (c2 : Nat) (hh : OnH rs c ws c2) :
  Tells Fence.wide k Tryz.prog 70 #[.pointer (some ⟨B1, 0, none⟩), .pointer (some ⟨B2, 0, none⟩)] (encP rs ws) (fun _ W => OnP B1 B2 a rs c a2 ws c2 W) (fun _ _ _ => False) (TellP rs ws) (fun s _ => s + 1) (FinP rs ws) 0 := by
 intro l J Jx W hgood hskip hkeep hyield h0
 have HG : Hid (∀ s W, J s W → OnP B1 B2 a rs c a2 ws c2 W) := hgood
 have HD : Hid (∀ s W W', J s W → Keeps (fun _ => False) W W' → J s W') := hkeep
 have HY : Hid (∀ s x W, J s W → TellP rs ws s x W → YieldAt Fence.wide (k - 1) Tryz.prog l (encP rs ws x) W fun e W' => (e = .returned (.bool true) ∧ J (s + 1) W') ∨ (e = .returned (.bool false) ∧ Jx W')) := hyield
 have HJ : Hid (J 0 W) := h0
 have p1 := (hgood 0 W h0).p1
 have HH : Hid (OnH rs c ws c2) := hh
 obtain ⟨L, hL⟩ : ∃ L, L = ws.length := ⟨_, rfl⟩
 have hL4 : (L : Int) ≤ 1024 := by have := hh.len; omega
 have hL5 : (L : Int) ≤ c2 ∧ (c2 : Int) ≤ 9223372036854775807 := by have := hh.lw; unfold maxLen at this; omega
 obtain ⟨hL6, hL7⟩ := hL5
 have HL : Hid (L = ws.length) := hL
 rw [← hL] at p1
 clear hgood hskip hkeep hyield h0 hh hL
 refine callsIn_of_wp Tryz.func70 rfl trivial ?_ rfl
 refine wpIn_wide.2 ?_
 simp only [Tryz.ntmps70, List.size_toArray, List.length_cons, List.length_nil, Nat.reduceAdd, Nat.reduceSub, Array.replicate_succ, Array.replicate_zero, List.push_toArray, List.append_toArray, List.nil_append, List.cons_append]
 go_wp2
 clear p1
 refine (wpIn_wide (n := k)).1 ?_
 gi_loopw [10] (fun i wr => ∃ s : Nat, s ≤ L ∧ i = .int .i64 s ∧ J s wr) (fun i _ => L - (intOf i).toNat)
 case atStart => exact ⟨0, by omega, rfl, HJ.out⟩
 case round =>
  obtain ⟨s, hs, rfl, hJ⟩ := hrel
  have HJs : Hid (J s wr) := hJ
  by_cases hlt : s < L
  ·
   have hg := HG.out s wr hJ
   have p2 := hg.p2
   have hlt' : (s : Int) < L := by omega
   have hws : s < ws.length := by have := HL.out; omega
   obtain ⟨b2, o2, rfl, hcell⟩ : ∃ b2 o2, a2 = some ⟨b2, o2, none⟩ ∧ ∀ j, (h : j < ws.length) → wr.cell? ⟨b2, o2 + j, none⟩ = some (.int .u32 (ws[j].toNat : Int)) := by
    rcases hg.sw with h | h
    ·
     rw [h] at hws; simp at hws
    ·
     exact h
   have hc := hcell s hws
   have hgd : ws[s] = ws.getD s 0 := by simp [List.getD, hws]
   rw [hgd] at hc
   have HC : Hid (Calls _ _ _ wr _) := place_any a rs c s wr HH.out.lr hg.sr HH.out.ok (by have := HH.out.len; omega)
   obtain ⟨V, hV⟩ : ∃ V, V = plV rs s := ⟨_, rfl⟩
   obtain ⟨X, hX⟩ : ∃ X : Nat, X = wdN ws s := ⟨_, rfl⟩
   have hgd2 : (ws.getD s 0).toNat = wdN ws s := rfl
   rw [hgd2] at hc
   clear hgd2
   rw [← hX] at hc
   rw [← hV] at HC
   have HE : Hid (encP rs ws s = #[.int .i64 V, .int .u32 X]) := by rw [hV, hX]; exact rfl
   clear hg hJ hcell hgd hV hX
   cases hU : (findL rs (s / 16)).isSome
   ·
    rw [hU] at HC
    have HU : Hid (FinP rs ws s) := .inr ⟨hws, hU⟩
    clear hU hws
    gi_wp2_with fail
    refine ⟨trivial, fun h => by simp [Fence.wide] at h, ?_⟩
    refine (callsIn_wide.2 HC.out).mono ?_
    rintro e w2 ⟨rfl, hk⟩
    have HK2 : Hid (Keeps (fun _ => False) wr w2) := hk
    clear hk HC p2 hc
    gi_wp2
    refine ⟨fun _ h => (by cases h), ?_⟩
    gi_wp2
    refine bodyPost_ret (results_none rfl _ _ _) rfl ?_
    exact ⟨⟨_, rfl⟩, .inl ⟨s, HU.out, HD.out _ _ _ HJs.out HK2.out⟩⟩
   ·
    rw [hU] at HC
    have HT : Hid (∀ W, TellP rs ws s s W) := fun _ => ⟨rfl, hws, hU⟩
    clear hU hws
    gi_wp2_with fail
    refine ⟨trivial, fun h => by simp [Fence.wide] at h, ?_⟩
    refine (callsIn_wide.2 HC.out).mono ?_
    rintro e w2 ⟨rfl, hk⟩
    obtain ⟨fn, tmps, assign, body, hy, hR⟩ := HY.out s s w2 (HD.out _ _ _ HJs.out hk) (HT.out w2)
    rw [HE.out] at hy
    have HR : Hid (RoundIn _ _ _ _ _ _ _ _ _ _) := hR
    clear hR hk HC p2 hc
    gi_wp2_with fail
    refine ⟨fun h => by simp [Fence.wide] at h, ?_⟩
    refine HR.out.mono ?_
    rintro e W3 (⟨rfl, hJ3⟩ | ⟨rfl, hJx3⟩)
    ·
     have HJ3 : Hid (J (s + 1) W3) := hJ3
     clear hJ3 hy HR
     gi_wp2
     go_roundw
     case rel => exact ⟨s + 1, by omega, by go_num, HJ3.out⟩
     case measure => simp [intOf]; omega
    ·
     have HJ3 : Hid (Jx W3) := hJx3
     clear hJx3 hy HR
     gi_wp2
     refine bodyPost_ret (results_none rfl _ _ _) rfl ?_
     exact ⟨⟨_, rfl⟩, .inr HJ3.out⟩
  ·
   obtain rfl : s = L := by omega
   gi_wp2
   go_end0
   exact ⟨⟨_, rfl⟩, .inl ⟨_, .inl HL.out, HJs.out⟩⟩
end Mq
end Go.Proofs.YtglhfijgnfignaaGreat
namespace Go.Proofs.YtglhfijgnfignaaGreat
namespace Mq
open Go.RowKit Go.Shelf
set_option linter.unusedVariables false
set_option linter.unusedSimpArgs false
attribute [local go_sem] Oper.semAt_some
structure LI (w : World) (M B1 B2 : Nat) (a : Option Addr) (rs : List Rgn) (c : Nat) (a2 : Option Addr) (ws : List UInt32) (c2 : Nat) (s : Nat) (W : World) : Prop where
 on : OnP B1 B2 a rs c a2 ws c2 W
 le : s ≤ ws.length ∧ ∀ i, i < s → (findL rs (i / 16)).isSome = true
 m : Blk W M [.int .i64 s] 3
 k : Keeps (fun _ => False) w W
set_option maxHeartbeats 1000000 in
theorem lies_long (a : Option Addr) (n c : Nat) (a2 : Option Addr) (L c2 : Nat) (w : World) (hl : 1024 < L) :
  Calls Tryz.prog 41 #[.slice a n c, .slice a2 L c2] w fun e w' => e = .returned (.bool false) ∧ Keeps (fun _ => False) w w' := by
 have h : (1024 : Int) < L := by omega
 go_enter Tryz.func41, Tryz.ntmps41
 go_wp2
 go_ret
 exact ⟨rfl, Keeps.refl _ _⟩
theorem lies_iff {rs : List Rgn} {ws : List UInt32} {s : Nat} (hl : ws.length ≤ 1024) (hs : s ≤ ws.length ∧ ∀ i, i < s → (findL rs (i / 16)).isSome = true) (hf : FinP rs ws s) : s = ws.length ↔ LiesP rs ws := by
 constructor
 ·
  rintro rfl; exact ⟨hl, hs.2⟩
 ·
  rintro ⟨_, h⟩
  rcases hf with h1 | ⟨h1, h2⟩
  ·
   exact h1
  ·
   rw [h s h1] at h2; cases h2
set_option maxRecDepth 20000 in
set_option maxHeartbeats 4000000 in
theorem lies_short (a : Option Addr) (rs : List Rgn) (c : Nat) (a2 : Option Addr) (ws : List UInt32) (c2 : Nat) (w : World) (hh : OnH rs c ws c2) (hs : SegR w a rs) (hw : SegW w a2 ws) :
  Calls Tryz.prog 41 #[.slice a rs.length c, .slice a2 ws.length c2] w fun e w' => (∃ b, e = .returned (.bool b) ∧ (b = true ↔ LiesP rs ws)) ∧ Keeps (fun _ => False) w w' := by
 obtain ⟨M, hM⟩ : ∃ M, M = w.heap.size := ⟨_, rfl⟩
 obtain ⟨w1, hw1⟩ : ∃ w1, w1 = w.alloc (.cells #[.int .i64 0] 3) := ⟨_, rfl⟩
 have hk1 : Keeps (fun _ => False) w w1 := by rw [hw1]; exact (Keeps.refl _ w).alloc _
 have hb1 : Blk w1 M [.int .i64 0] 3 := by rw [hw1, hM]; exact Blk.new w _ 3
 have hz1 : w1.heap.size = M + 1 := by rw [hw1, hM]; simp
 obtain ⟨L, hL⟩ : ∃ L, L = ws.length := ⟨_, rfl⟩
 obtain ⟨n, hn⟩ : ∃ n, n = rs.length := ⟨_, rfl⟩
 have HP : Hid (OnH rs c ws c2 ∧ SegR w a rs ∧ SegW w a2 ws ∧ L = ws.length ∧ n = rs.length ∧ Keeps (fun _ => False) w w1 ∧ Blk w1 M [.int .i64 0] 3 ∧ w1.heap.size = M + 1 ∧ M = w.heap.size) := ⟨hh, hs, hw, hL, hn, hk1, hb1, hz1, hM⟩
 have HW : Hid (w1 = _) := hw1
 have hlen : ¬ (1024 : Int) < L := by have := hh.len; omega
 have HN : Hid (Calls _ _ _ w1 _) := places_any a a2 n c L c2 w1
 rw [← hL, ← hn]
 clear hh hs hw hL hn hk1 hb1 hz1 hM hw1
 refine (callsIn_wide (n := 8)).1 ?_
 refine callsIn_of_wp_marks Tryz.func41 rfl trivial ?_ rfl
 refine wpIn_wide.2 ?_
 simp only [Tryz.ntmps41, List.size_toArray, List.length_cons, List.length_nil, Nat.reduceAdd, Nat.reduceSub, Array.replicate_succ, Array.replicate_zero, List.push_toArray, List.append_toArray, List.nil_append, List.cons_append]
 go_wp2_with fail
 rw [← HW.out]
 refine HN.out.mono ?_
 rintro e w3 ⟨rfl, hb2, hb3, hk3⟩
 rw [HP.out.2.2.2.2.2.2.2.1] at hb2 hb3 ⊢
 have h0 : LI w M (M + 1 + 1) (M + 1) a rs c a2 ws c2 0 w3 := by
  obtain ⟨x1, x2, x3, x4, x5, x6, x7, x8, x9⟩ := HP.out
  have hk := x6.trans hk3 fun _ _ h => h
  rw [x4] at hb3
  rw [x5] at hb2
  exact ⟨⟨hb3.cell rfl, hb2.cell rfl, x2.grown hk, x3.kept hk fun _ _ h => h⟩, ⟨by omega, fun i hi => by omega⟩, x7.kept hk3 fun h => h, hk⟩
 have HI : Hid (LI w M (M + 1 + 1) (M + 1) a rs c a2 ws c2 0 w3 ∧ M + 3 ≤ w3.heap.size) := ⟨h0, by have := hb3.lt; omega⟩
 simp only [← HP.out.2.2.2.2.2.2.2.2]
 clear hb2 hb3 hk3 h0 HN HW
 have kp : ∀ s W W', Keeps (fun k => k = w3.heap.size ∨ k = w3.heap.size + 1) W W' → LI w M (M + 1 + 1) (M + 1) a rs c a2 ws c2 s W → LI w M (M + 1 + 1) (M + 1) a rs c a2 ws c2 s W' := fun s W W' hK h => by
  have q1 := HI.out.2
  have q2 := HP.out.2.2.2.2.2.2.2.2
  have hk' : Keeps (fun _ => False) w W' := h.k.trans hK (fun b hb e => by omega)
  exact ⟨⟨cell_kept h.on.p1 hK (by omega), cell_kept h.on.p2 hK (by omega), HP.out.2.1.grown hk', HP.out.2.2.1.kept hk' fun _ _ h => h⟩, h.le, h.m.kept hK (by omega), hk'⟩
 go_wp2_with fail
 refine (wpIn_wide (n := 8)).1 ?_
 refine range_live3 (σ := Nat) (α := Nat) rfl (by omega) (gf := 70) (lb := #[.pointer (some ⟨M + 1 + 1, 0, none⟩), .pointer (some ⟨M + 1, 0, none⟩)]) rfl trivial (enters_of Tryz.func70 (by kernel_rfl) rfl)
  (places_tells 7 (M + 1 + 1) (M + 1) a rs c a2 ws c2 HP.out.1) (fun _ => rfl) (LI w M (M + 1 + 1) (M + 1) a rs c a2 ws c2) (fun _ _ => False) kp
  (fun s x W W' hK hi ht => ht) (fun _ _ _ _ h => h) (fun s W hz hi => hi.on) (fun s s' W hi hs => hs.elim) HI.out.1 ?body ?done ?stop
 case stop =>
  rintro c W h _
  exact h.elim
 case body =>
  intro l s x W0 _ _
  unfold encP
  gi_wp2
  refine ⟨Keeps.refl _ _, ?_⟩
  intro W hkA hlt hi ht
  have m0 := hi.m.cell (i := 0) rfl
  have mz := hi.m.frozen 0
  have hle : (s : Int) ≤ 1024 := by have := hi.le.1; have := HP.out.1.len; omega
  have HH : Hid (LI w M (M + 1 + 1) (M + 1) a rs c a2 ws c2 s W ∧ TellP rs ws s x W ∧ w3.heap.size + 1 < W.heap.size) := ⟨hi, ht, hlt⟩
  clear hi ht hkA hlt
  gi_wp2
  obtain ⟨hi, ht, hlt⟩ := HH.out
  have q1 := HI.out.2
  have q2 := HP.out.2.2.2.2.2.2.2.2
  have hKs : Keeps (fun k => k = M) W (W.setCell ⟨M, 0, none⟩ (.int .i64 ((s : Int) + 1))) := (Keeps.refl _ W).setCell _ _ fun _ => rfl
  have hk' : Keeps (fun _ => False) w _ := hi.k.trans hKs (fun b hb e => by omega)
  refine ⟨⟨hKs.block _ (by omega) (by omega), hKs.block _ (by omega) (by omega)⟩, ⟨⟨cell_kept hi.on.p1 hKs (by omega), cell_kept hi.on.p2 hKs (by omega), HP.out.2.1.grown hk', HP.out.2.2.1.kept hk' fun _ _ h => h⟩, ⟨by have := ht.2.1; omega, fun i hi' => ?_⟩, ?_, hk'⟩⟩
  ·
   by_cases e : i = s
   ·
    rw [e]; exact ht.2.2
   ·
    exact hi.le.2 i (by omega)
  ·
   have := hi.m.setCell 0 (.int .i64 ((s : Int) + 1))
   exact this
 case done =>
  rintro s W hf hi hD
  have m0 := hi.m.cell (i := 0) rfl
  have HH : Hid (LI w M (M + 1 + 1) (M + 1) a rs c a2 ws c2 s W ∧ (s = ws.length ↔ LiesP rs ws)) := ⟨hi, lies_iff HP.out.1.len hi.le hf⟩
  clear hi kp hf
  by_cases e : s = L
  ·
   have e' : (s : Int) = L := by omega
   have HE : Hid (LiesP rs ws) := HH.out.2.1 (by have := HP.out.2.2.2.1; omega)
   rw [e'] at m0
   clear e e'
   gi_wp2
   go_wp2
   have hKf : Keeps (· = w3.heap.size) W (W.putObj w3.heap.size (.deferred none)) := ⟨rfl, rfl, rfl, by simp, fun k _ hn => World.putObj_heap_other hn⟩
   refine ⟨by simp, .inl ⟨_, _, rfl, run_takeDeferred hD, ?_⟩⟩
   exact ⟨_, results_tmp rfl _ _ _, ⟨_, rfl, ⟨fun _ => HE.out, fun _ => rfl⟩⟩, HH.out.1.k.trans hKf fun b hb e => by have := HI.out.2; have := HP.out.2.2.2.2.2.2.2.2; omega⟩
  ·
   have e' : ¬ (s : Int) = L := by omega
   have HE : Hid (¬ LiesP rs ws) := fun h => e (by have := HH.out.2.2 h; have := HP.out.2.2.2.1; omega)
   clear e
   gi_wp2
   go_wp2
   have hKf : Keeps (· = w3.heap.size) W (W.putObj w3.heap.size (.deferred none)) := ⟨rfl, rfl, rfl, by simp, fun k _ hn => World.putObj_heap_other hn⟩
   refine ⟨by simp, .inl ⟨_, _, rfl, run_takeDeferred hD, ?_⟩⟩
   exact ⟨_, results_tmp rfl _ _ _, ⟨_, rfl, ⟨fun h => (by simp [e'] at h), fun h => absurd h HE.out⟩⟩, HH.out.1.k.trans hKf fun b hb e => by have := HI.out.2; have := HP.out.2.2.2.2.2.2.2.2; omega⟩
theorem progLies_any (a : Option Addr) (rs : List Rgn) (c : Nat) (a2 : Option Addr) (ws : List UInt32) (c2 : Nat) (w : World) (lr : rs.length ≤ c ∧ c ≤ maxLen) (lw : ws.length ≤ c2 ∧ c2 ≤ maxLen) (ok : ∀ r, r ∈ rs → r.ok) (hs : SegR w a rs) (hw : SegW w a2 ws) :
  Calls Tryz.prog 41 #[.slice a rs.length c, .slice a2 ws.length c2] w fun e w' => (∃ b, e = .returned (.bool b) ∧ (b = true ↔ LiesP rs ws)) ∧ Keeps (fun _ => False) w w' := by
 by_cases h : ws.length ≤ 1024
 ·
  exact lies_short a rs c a2 ws c2 w ⟨lr, lw, ok, h⟩ hs hw
 ·
  refine (lies_long a _ c a2 _ c2 w (by omega)).mono ?_
  rintro e w' ⟨rfl, hk⟩
  exact ⟨⟨false, rfl, ⟨fun h => (by cases h), fun h' => absurd h'.1 h⟩⟩, hk⟩
end Mq
end Go.Proofs.YtglhfijgnfignaaGreat
namespace Go.Proofs.YtglhfijgnfignaaGreat
namespace Mq
open Go.RowKit Go.Shelf
set_option linter.unusedVariables false
set_option linter.unusedSimpArgs false
attribute [local go_sem] Oper.semAt_some
structure OwH (n : Nat) (rs : List Rgn) (c : Nat) (ws : List UInt32) (c2 : Nat) : Prop where
 lr : rs.length ≤ c ∧ c ≤ maxLen
 lw : ws.length ≤ c2 ∧ c2 ≤ maxLen
 ok : ∀ r, r ∈ rs → r.ok
 fr : ∀ r, r ∈ rs → r.frame + r.pages ≤ n
 fu : FrU rs
 pu : PgU rs
structure WI (w : World) (H b g n : Nat) (xs : List UInt32) (B1 B2 : Nat) (a : Option Addr) (rs : List Rgn) (c : Nat) (a2 : Option Addr) (ws : List UInt32) (c2 : Nat) (s : Nat) (W : World) : Prop where
 on : OnP B1 B2 a rs c a2 ws c2 W
 le : s ≤ ws.length
 mb : Blk W H [.pointer (some ⟨b, 0, none⟩)] 28
 rb : Blk W (H + 1) [.int .i64 0] 29
 mem : Mn W b g n (ownL rs (ws.take s) xs)
 k : Keeps (· = g) w W
def OwnP (b g n : Nat) (xs : List UInt32) (rs : List Rgn) (ws : List UInt32) (w : World) (e : Ending) (w' : World) : Prop :=
 (LiesP rs ws ∧ e = .returned (.int .i64 0) ∧ Mn w' b g n (ownL rs ws xs) ∧ Keeps (· = g) w w') ∨ (¬ LiesP rs ws ∧ e = .returned (.int .i64 241) ∧ Keeps (fun _ => False) w w')
theorem find_lt {n : Nat} {rs : List Rgn} {c : Nat} {ws : List UInt32} {c2 : Nat} (h : OwH n rs c ws c2) {p : Nat} {x : Nat × Nat} (hx : findL rs p = some x) : x.1 < n := by
 obtain ⟨r, hr, hp, rfl⟩ := findL_some hx
 obtain ⟨h1, h2⟩ := has_iff.1 hp
 obtain ⟨o1, o2, o3, o4, o5, o6, o7⟩ := h.ok r hr
 have := h.fr r hr
 simp only
 omega
set_option maxRecDepth 20000 in
set_option maxHeartbeats 4000000 in
theorem own_no (b : Nat) (a : Option Addr) (rs : List Rgn) (c : Nat) (a2 : Option Addr) (ws : List UInt32) (c2 : Nat) (w : World) (lr : rs.length ≤ c ∧ c ≤ maxLen) (lw : ws.length ≤ c2 ∧ c2 ≤ maxLen) (ok : ∀ r, r ∈ rs → r.ok) (hs : SegR w a rs) (hw : SegW w a2 ws) (hn : ¬ LiesP rs ws) :
  Calls Tryz.prog 20 #[.pointer (some ⟨b, 0, none⟩), .slice a rs.length c, .slice a2 ws.length c2] w fun e w' => e = .returned (.int .i64 241) ∧ Keeps (fun _ => False) w w' := by
 obtain ⟨H, hH⟩ : ∃ H, H = w.heap.size := ⟨_, rfl⟩
 obtain ⟨w1, hw1⟩ : ∃ w1, w1 = (w.alloc (.cells #[.pointer (some ⟨b, 0, none⟩)] 28)).alloc (.cells #[.int .i64 0] 29) := ⟨_, rfl⟩
 have hk1 : Keeps (fun _ => False) w w1 := by rw [hw1]; exact ((Keeps.refl _ w).alloc _).alloc _
 have hb1 : Blk w1 (H + 1) [.int .i64 0] 29 := by
  have := Blk.new (w.alloc (.cells #[.pointer (some ⟨b, 0, none⟩)] 28)) #[.int .i64 0] 29
  rw [World.size_alloc, ← hH, ← hw1] at this; exact this
 have HC : Hid (Calls _ _ _ w1 _) := progLies_any a rs c a2 ws c2 w1 lr lw ok (hs.grown hk1) (hw.kept hk1 fun _ _ h => h)
 have HP : Hid (Keeps (fun _ => False) w w1 ∧ Blk w1 (H + 1) [.int .i64 0] 29 ∧ H = w.heap.size ∧ ¬ LiesP rs ws) := ⟨hk1, hb1, hH, hn⟩
 have HW : Hid (w1 = _) := hw1
 obtain ⟨L, hL⟩ : ∃ L, L = ws.length := ⟨_, rfl⟩
 obtain ⟨m, hm⟩ : ∃ m, m = rs.length := ⟨_, rfl⟩
 rw [← hL, ← hm] at HC ⊢
 clear lr lw ok hs hw hk1 hb1 hH hw1 hL hm hn
 refine (callsIn_wide (n := 8)).1 ?_
 refine callsIn_of_wp_marks Tryz.func20 rfl trivial ?_ rfl
 refine wpIn_wide.2 ?_
 simp only [Tryz.ntmps20, List.size_toArray, List.length_cons, List.length_nil, Nat.reduceAdd, Nat.reduceSub, Array.replicate_succ, Array.replicate_zero, List.push_toArray, List.append_toArray, List.nil_append, List.cons_append]
 go_wp2_with fail
 rw [← HW.out]
 refine HC.out.mono ?_
 rintro e w2 ⟨⟨b', rfl, hb'⟩, hk2⟩
 obtain rfl : b' = false := Bool.eq_false_iff.2 fun h => HP.out.2.2.2 (hb'.1 h)
 simp only [← HP.out.2.2.1]
 have hB := HP.out.2.1.kept hk2 fun h => h
 have c6 := hB.cell (i := 0) rfl
 have f6 := hB.frozen 0
 have HB : Hid (Blk w2 (H + 1) [.int .i64 0] 29 ∧ Keeps (fun _ => False) w1 w2) := ⟨hB, hk2⟩
 clear hb' hk2 hB HC HW
 go_wp2
 have hS := HB.out.1.setCell 0 (.int .i64 241)
 have c9 := hS.cell (i := 0) (v := .int .i64 241) rfl
 refine ⟨.int .i64 241, ?_, rfl, ?_⟩
 ·
  simp [results, Tryz.results20, go_sem, c9]
 ·
  exact (HP.out.1.trans HB.out.2 fun _ _ h => h).setCell _ _ fun h => by have := HP.out.2.2.1; simp at h; omega
set_option maxRecDepth 20000 in
set_option maxHeartbeats 2000000 in
theorem own_yes (b g n : Nat) (xs : List UInt32) (a : Option Addr) (rs : List Rgn) (c : Nat) (a2 : Option Addr) (ws : List UInt32) (c2 : Nat) (w : World) (hM : Mn w b g n xs) (hh : OwH n rs c ws c2) (hs : SegR w a rs) (hw : SegW w a2 ws)
  (ha : ∀ x, a = some x → x.block ≠ g) (ha2 : ∀ x, a2 = some x → x.block ≠ g) (hn : LiesP rs ws) :
  Calls Tryz.prog 20 #[.pointer (some ⟨b, 0, none⟩), .slice a rs.length c, .slice a2 ws.length c2] w fun e w' => e = .returned (.int .i64 0) ∧ Mn w' b g n (ownL rs ws xs) ∧ Keeps (· = g) w w' := by
 obtain ⟨H, hH⟩ : ∃ H, H = w.heap.size := ⟨_, rfl⟩
 obtain ⟨w1, hw1⟩ : ∃ w1, w1 = (w.alloc (.cells #[.pointer (some ⟨b, 0, none⟩)] 28)).alloc (.cells #[.int .i64 0] 29) := ⟨_, rfl⟩
 have hk1 : Keeps (fun _ => False) w w1 := by rw [hw1]; exact ((Keeps.refl _ w).alloc _).alloc _
 have hb0 : Blk w1 H [.pointer (some ⟨b, 0, none⟩)] 28 := by rw [hw1, hH]; exact (Blk.new w _ 28).alloc _
 have hb1 : Blk w1 (H + 1) [.int .i64 0] 29 := by
  have := Blk.new (w.alloc (.cells #[.pointer (some ⟨b, 0, none⟩)] 28)) #[.int .i64 0] 29
  rw [World.size_alloc, ← hH, ← hw1] at this; exact this
 have HC : Hid (Calls _ _ _ w1 _) := progLies_any a rs c a2 ws c2 w1 hh.lr hh.lw hh.ok (hs.grown hk1) (hw.kept hk1 fun _ _ h => h)
 have HP : Hid (Keeps (fun _ => False) w w1 ∧ Blk w1 H [.pointer (some ⟨b, 0, none⟩)] 28 ∧ Blk w1 (H + 1) [.int .i64 0] 29 ∧ H = w.heap.size ∧ LiesP rs ws ∧ b < H ∧ g < H) := ⟨hk1, hb0, hb1, hH, hn, by rw [hH]; exact hM.mm.blk.lt, by rw [hH]; exact hM.mm.row.lt⟩
 have HQ : Hid (Mn w b g n xs ∧ OwH n rs c ws c2 ∧ SegR w a rs ∧ SegW w a2 ws ∧ (∀ x, a = some x → x.block ≠ g) ∧ (∀ x, a2 = some x → x.block ≠ g)) := ⟨hM, hh, hs, hw, ha, ha2⟩
 have HW : Hid (w1 = _) := hw1
 obtain ⟨L, hL⟩ : ∃ L, L = ws.length := ⟨_, rfl⟩
 obtain ⟨m, hm⟩ : ∃ m, m = rs.length := ⟨_, rfl⟩
 have HL : Hid (L = ws.length ∧ m = rs.length) := ⟨hL, hm⟩
 have hmc : (m : Int) ≤ c ∧ (c : Int) ≤ 9223372036854775807 := by have := hh.lr; unfold maxLen at this; omega
 obtain ⟨hmc1, hmc2⟩ := hmc
 rw [← hL, ← hm] at HC ⊢
 clear hM hh hs hw ha ha2 hk1 hb0 hb1 hH hw1 hL hm hn
 refine (callsIn_wide (n := 8)).1 ?_
 refine callsIn_of_wp_marks Tryz.func20 rfl trivial ?_ rfl
 refine wpIn_wide.2 ?_
 simp only [Tryz.ntmps20, List.size_toArray, List.length_cons, List.length_nil, Nat.reduceAdd, Nat.reduceSub, Array.replicate_succ, Array.replicate_zero, List.push_toArray, List.append_toArray, List.nil_append, List.cons_append]
 go_wp2_with fail
 rw [← HW.out]
 refine HC.out.mono ?_
 rintro e w2 ⟨⟨b', rfl, hb'⟩, hk2⟩
 obtain rfl : b' = true := hb'.2 HP.out.2.2.2.2.1
 simp only [← HP.out.2.2.2.1]
 have H2 : Hid (Keeps (fun _ => False) w w2 ∧ Blk w2 H [.pointer (some ⟨b, 0, none⟩)] 28 ∧ Blk w2 (H + 1) [.int .i64 0] 29) := ⟨HP.out.1.trans hk2 fun _ _ h => h, HP.out.2.1.kept hk2 fun h => h, HP.out.2.2.1.kept hk2 fun h => h⟩
 clear hb' hk2 HC HW
 go_wp2
 go_loopw [19] (fun i wr => ∃ j : Nat, j ≤ m ∧ i = .int .i64 j ∧ Keeps (· = g) w wr ∧ Blk wr H [.pointer (some ⟨b, 0, none⟩)] 28 ∧ Blk wr (H + 1) [.int .i64 0] 29 ∧ Mn wr b g n (ownL (rs.take j) [] xs)) (fun i _ => m - (intOf i).toNat)
 case atStart =>
  refine ⟨0, by omega, rfl, H2.out.1.mono fun _ _ h => h.elim, H2.out.2.1, H2.out.2.2, ?_⟩
  have e : ownL (rs.take 0) [] xs = xs := by
   refine List.ext_getElem? fun i => ?_
   rw [ownL_get]
   cases xs[i]? with
   | none => rfl
   | some x => simp [ownW, pgOf]
  rw [e]
  exact HQ.out.1.grown H2.out.1
 case round =>
  obtain ⟨j, hj, rfl, hK, hB0, hB1, hMn⟩ := hrel
  by_cases hlt : j < m
  ·
   obtain ⟨y, hy⟩ : ∃ y, rs[j]? = some y := ⟨_, List.getElem?_eq_getElem (by have := HL.out.2; omega)⟩
   obtain ⟨q1, q2, q3, q4, q5, q6⟩ := HQ.out
   have hsr := q3.kept hK q5
   obtain ⟨g2, o2, rfl, hg⟩ := hsr.at hy
   obtain ⟨y0, y1, y2, y3⟩ := hg
   have hyo := q2.ok y (List.mem_of_getElem? hy)
   have hyf := q2.fr y (List.mem_of_getElem? hy)
   have hlx : (ownL (rs.take j) [] xs).length = n * 16 := hMn.len
   obtain ⟨h1, h2, h3, h4, h5, h6, h7⟩ := hyo
   have HC := fun w' (hm : Mn w' b g n (ownL (rs.take j) [] xs)) => fill_zero b g _ (y.frame.toNat * 16) (y.pages.toNat * 16) w' hm.mm (by rw [hlx]; omega)
   rw [own_fill hy ⟨h1, h2, h3, h4, h5, h6, h7⟩ (by rw [q1.len]; omega), show ((y.frame.toNat * 16 : Nat) : Int) = y.frame * 16 by omega, show ((y.pages.toNat * 16 : Nat) : Int) = y.pages * 16 by omega] at HC
   have HC : Hid (∀ w', Mn w' b g n (ownL (rs.take j) [] xs) → Calls _ _ _ w' _) := HC
   have c0 := hB0.cell (i := 0) rfl
   have hjm : (j : Int) < m := by omega
   have HR : Hid (Keeps (· = g) w wr ∧ Blk wr H [.pointer (some ⟨b, 0, none⟩)] 28 ∧ Blk wr (H + 1) [.int .i64 0] 29 ∧ Mn wr b g n (ownL (rs.take j) [] xs) ∧ rs[j]? = some y) := ⟨hK, hB0, hB1, hMn, hy⟩
   have hHwr : H < wr.heap.size := hB0.lt
   clear hK hB0 hB1 hMn hy q1 q2 q3 q4 q5 q6 hsr hlx h6 h7 hj hlt hyf
   go_wp2_with fail
   refine (HC.out _ (HR.out.2.2.2.1.grown ((Keeps.refl _ wr).alloc _))).mono ?_
   rintro e w3 ⟨rfl, hm3, hk3⟩
   have H3 : Hid (Mm w3 b g (ownL (rs.take (j + 1)) [] xs) ∧ Keeps (· = g) wr w3) := ⟨hm3, (((Keeps.refl (fun _ => False) wr).alloc _).mono fun _ _ h => h.elim).trans hk3 fun _ _ h => h⟩
   clear hm3 hk3 HC
   go_wp2
   go_roundw
   case rel =>
    refine ⟨j + 1, by omega, by go_num, HR.out.1.trans H3.out.2 fun _ _ h => h, HR.out.2.1.kept H3.out.2 (by have := HP.out; omega), HR.out.2.2.1.kept H3.out.2 (by have := HP.out; omega), H3.out.1, ?_⟩
    rw [ownL_length]; have := HR.out.2.2.2.1.len; rwa [ownL_length] at this
   case measure => simp [intOf]; omega
  ·
   obtain rfl : j = m := by omega
   rw [List.take_of_length_le (by have := HL.out.2; omega)] at hMn
   have HR : Hid (Keeps (· = g) w wr ∧ Blk wr H [.pointer (some ⟨b, 0, none⟩)] 28 ∧ Blk wr (H + 1) [.int .i64 0] 29 ∧ Mn wr b g n (ownL rs [] xs)) := ⟨hK, hB0, hB1, hMn⟩
   have HN : Hid (Calls _ _ _ wr _) := places_any a a2 j c L c2 wr
   clear hK hB0 hB1 hMn hj hlt
   go_wp2_with fail
   refine HN.out.mono ?_
   rintro e w3 ⟨rfl, hb2, hb3, hk3⟩
   obtain ⟨N, hN⟩ : ∃ N, N = wr.heap.size := ⟨_, rfl⟩
   rw [← hN] at hb2 hb3 ⊢
   have h0 : WI w H b g n xs (N + 1) N a rs c a2 ws c2 0 w3 := by
    obtain ⟨x1, x2, x3, x4⟩ := HR.out
    obtain ⟨q1, q2, q3, q4, q5, q6⟩ := HQ.out
    have hk := x1.trans hk3 (fun _ _ h => h.elim)
    rw [HL.out.1] at hb3
    rw [HL.out.2] at hb2
    exact ⟨⟨hb3.cell rfl, hb2.cell rfl, q3.kept hk q5, q4.kept hk q6⟩, by omega, x2.kept hk3 fun h => h, x3.kept hk3 fun h => h, x4.grown hk3, hk⟩
   have HI : Hid (WI w H b g n xs (N + 1) N a rs c a2 ws c2 0 w3 ∧ N + 2 ≤ w3.heap.size ∧ H + 2 ≤ N ∧ H = w.heap.size ∧ b < H ∧ g < H) := ⟨h0, by have := hb3.lt; omega, by rw [hN]; exact HR.out.2.2.1.lt, HP.out.2.2.2.1, HP.out.2.2.2.2.2⟩
   clear hb2 hb3 hk3 h0 HN hN HR H2
   have kp : ∀ s W W', Keeps (fun k => k = w3.heap.size ∨ k = w3.heap.size + 1) W W' → WI w H b g n xs (N + 1) N a rs c a2 ws c2 s W → WI w H b g n xs (N + 1) N a rs c a2 ws c2 s W' := fun s W W' hK h => by
    obtain ⟨r1, r2, r3, r4, r5, r6⟩ := HI.out
    have hk' : Keeps (· = g) w W' := h.k.trans hK (fun b hb e => by omega)
    exact ⟨⟨cell_kept h.on.p1 hK (by omega), cell_kept h.on.p2 hK (by omega), HQ.out.2.2.1.kept hk' HQ.out.2.2.2.2.1, HQ.out.2.2.2.1.kept hk' HQ.out.2.2.2.2.2⟩, h.le, h.mb.kept hK (by omega), h.rb.kept hK (by omega), h.mem.kept hK (by omega) (by omega), hk'⟩
   go_wp2_with fail
   refine (wpIn_wide (n := 8)).1 ?_
   refine range_live3 (σ := Nat) (α := Nat) rfl (by omega) (gf := 70) (lb := #[.pointer (some ⟨N + 1, 0, none⟩), .pointer (some ⟨N, 0, none⟩)]) rfl trivial (enters_of Tryz.func70 (by kernel_rfl) rfl)
    (places_tells 7 (N + 1) N a rs c a2 ws c2 ⟨HQ.out.2.1.lr, HQ.out.2.1.lw, HQ.out.2.1.ok, HP.out.2.2.2.2.1.1⟩) (fun _ => rfl) (WI w H b g n xs (N + 1) N a rs c a2 ws c2) (fun _ _ => False) kp
    (fun s x W W' hK hi ht => ht) (fun _ _ _ _ h => h) (fun s W hz hi => hi.on) (fun s s' W hi hs => hs.elim) HI.out.1 ?body ?done ?stop
   case stop =>
    rintro c W h _
    exact h.elim
   case body =>
    intro l s x W0 _ _
    unfold encP
    gi_wp2
    refine ⟨Keeps.refl _ _, ?_⟩
    intro W hkA hlt hi ht
    obtain ⟨rfl, hsl, hsm⟩ := ht
    obtain ⟨z, hz⟩ := Option.isSome_iff_exists.1 hsm
    have c0 := hi.mb.cell (i := 0) rfl
    have hzn := find_lt HQ.out.2.1 hz
    have hwx : ws[x]? = some (ws.getD x 0) := by simp [List.getD, hsl]
    have hlx := hi.mem.len
    have hpl : plV rs x = 16 * z.1 + x % 16 := by unfold plV; rw [hz]
    have HC := write_in b g _ (16 * z.1 + x % 16) (ws.getD x 0) W hi.mem.mm (by rw [hlx]; omega)
    rw [own_write HQ.out.2.1.ok HQ.out.2.1.fu HQ.out.2.1.pu hz (by rw [ownL_length] at hlx; rw [hlx]; omega) hwx, ← hpl] at HC
    have HH : Hid (WI w H b g n xs (N + 1) N a rs c a2 ws c2 x W ∧ x < ws.length ∧ w3.heap.size + 1 < W.heap.size) := ⟨hi, hsl, hlt⟩
    obtain ⟨V, hV⟩ : ∃ V, V = plV rs x := ⟨_, rfl⟩
    obtain ⟨X, hX⟩ : ∃ X : Nat, X = wdN ws x := ⟨_, rfl⟩
    have hgd2 : (ws.getD x 0).toNat = wdN ws x := rfl
    rw [hgd2] at HC
    clear hgd2
    rw [← hV, ← hX] at HC
    have HC : Hid (Calls _ _ _ W _) := HC
    simp only [← hV, ← hX]
    clear hi hlt hkA hsl hsm hz hzn hwx hlx hpl hV hX
    gi_wp2_with fail
    refine ⟨trivial, ?_⟩
    refine (CallsIn.inRound l (callsIn_wide.2 HC.out)).mono ?_
    rintro e W4 ⟨rfl, hm4, hk4⟩
    have H4 : Hid (Mm W4 b g (ownL rs (ws.take (x + 1)) xs) ∧ Keeps (· = g) W W4) := ⟨hm4, hk4⟩
    clear hm4 hk4 HC
    gi_wp2
    obtain ⟨hi, hsl, hlt⟩ := HH.out
    obtain ⟨r1, r2, r3, r4, r5, r6⟩ := HI.out
    have hk' : Keeps (· = g) w W4 := hi.k.trans H4.out.2 fun _ _ h => h
    refine ⟨⟨H4.out.2.block _ (by omega) (by omega), H4.out.2.block _ (by omega) (by omega)⟩, ⟨⟨cell_kept hi.on.p1 H4.out.2 (by omega), cell_kept hi.on.p2 H4.out.2 (by omega), HQ.out.2.2.1.kept hk' HQ.out.2.2.2.2.1, HQ.out.2.2.2.1.kept hk' HQ.out.2.2.2.2.2⟩, by omega, hi.mb.kept H4.out.2 (by omega), hi.rb.kept H4.out.2 (by omega), ⟨H4.out.1, ?_⟩, hk'⟩⟩
    rw [ownL_length]; have := hi.mem.len; rwa [ownL_length] at this
   case done =>
    rintro s W hf hi hD
    have hsl : s = ws.length := by
     rcases hf with h | ⟨h1, h2⟩
     ·
      exact h
     ·
      rw [HP.out.2.2.2.2.1.2 s h1] at h2; cases h2
    have c0 := hi.rb.cell (i := 0) rfl
    have f0 := hi.rb.frozen 0
    have HH : Hid (WI w H b g n xs (N + 1) N a rs c a2 ws c2 s W ∧ s = ws.length) := ⟨hi, hsl⟩
    have hD : Hid (W.heap[w3.heap.size]? = some (.deferred (some []))) := hD
    clear hi kp hf hsl
    gi_wp2
    go_wp2
    obtain ⟨r1, r2, r3, r4, r5, r6⟩ := HI.out
    obtain ⟨W5, hW5⟩ : ∃ W5, W5 = W.setCell ⟨H + 1, 0, none⟩ (.int .i64 0) := ⟨_, rfl⟩
    rw [← hW5]
    have hk5 : Keeps (· = H + 1) W W5 := by rw [hW5]; exact (Keeps.refl _ W).setCell _ _ fun _ => rfl
    have hb5 : Blk W5 (H + 1) [.int .i64 0] 29 := by rw [hW5]; exact HH.out.1.rb.setCell 0 (.int .i64 0)
    have hD5 : W5.heap[w3.heap.size]? = some (.deferred (some [])) := (hk5.block _ (Array.getElem?_eq_some_iff.1 hD.out).1 (by omega)).trans hD.out
    obtain ⟨W6, hW6⟩ : ∃ W6, W6 = W5.putObj w3.heap.size (.deferred none) := ⟨_, rfl⟩
    have hKf : Keeps (· = w3.heap.size) W5 W6 := by rw [hW6]; exact ⟨rfl, rfl, rfl, by simp, fun k _ hn => World.putObj_heap_other hn⟩
    refine ⟨by simp, .inl ⟨_, _, rfl, run_takeDeferred hD5, ?_⟩⟩
    rw [← hW6]
    have c9 := (hb5.kept hKf (by omega)).cell (i := 0) rfl
    have hmem := HH.out.1.mem
    rw [HH.out.2, List.take_length] at hmem
    refine ⟨.int .i64 0, ?_, rfl, (hmem.kept hk5 (by omega) (by omega)).kept hKf (by omega) (by omega), (HH.out.1.k.trans hk5 fun k hk h => by omega).trans hKf fun k hk h => by omega⟩
    simp [results, Tryz.results20, go_sem, c9]
theorem own_any (b g n : Nat) (xs : List UInt32) (a : Option Addr) (rs : List Rgn) (c : Nat) (a2 : Option Addr) (ws : List UInt32) (c2 : Nat) (w : World) (hM : Mn w b g n xs) (hh : OwH n rs c ws c2) (hs : SegR w a rs) (hw : SegW w a2 ws)
  (ha : ∀ x, a = some x → x.block ≠ g) (ha2 : ∀ x, a2 = some x → x.block ≠ g) :
  Calls Tryz.prog 20 #[.pointer (some ⟨b, 0, none⟩), .slice a rs.length c, .slice a2 ws.length c2] w (OwnP b g n xs rs ws w) := by
 by_cases hn : LiesP rs ws
 ·
  refine (own_yes b g n xs a rs c a2 ws c2 w hM hh hs hw ha ha2 hn).mono ?_
  rintro e w' ⟨h1, h2, h3⟩
  exact .inl ⟨hn, h1, h2, h3⟩
 ·
  refine (own_no b a rs c a2 ws c2 w hh.lr hh.lw hh.ok hs hw hn).mono ?_
  rintro e w' ⟨h1, h2⟩
  exact .inr ⟨hn, h1, h2⟩
end Mq
end Go.Proofs.YtglhfijgnfignaaGreat
