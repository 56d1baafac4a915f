import Derived.Test.YtfbapgcopidbpaaGreatMc
import Derived.Test.YtfbapgcopidbpaaGreatGd
import Derived.Maps.Keyed
import Derived.DeepKeys3
import Derived.Maps.Own
import Derived.Maps.OwnOps
namespace Go.Proofs.YtfbapgcopidbpaaGreat
open Go.RowKit
set_option linter.unusedVariables false
set_option maxRecDepth 6000
theorem val_one : ∀ {l : List (Value × Value)}, (l.map Prod.fst).Nodup → ∀ {a x y : Value}, (a, x) ∈ l → (a, y) ∈ l → x = y
 | [], _, _, _, _, h, _ => by simp at h
 | p :: r, hn, a, x, y, hx, hy => by
  obtain ⟨h1, h2⟩ := List.nodup_cons.1 (by simpa using hn : (p.1 :: r.map Prod.fst).Nodup)
  rcases List.mem_cons.1 hx with hx | hx
  ·
   rcases List.mem_cons.1 hy with hy | hy
   ·
    rw [← hx] at hy; exact (congrArg Prod.snd hy).symm
   ·
    exact absurd (List.mem_map.2 ⟨_, hy, by rw [← hx]⟩) h1
  ·
   rcases List.mem_cons.1 hy with hy | hy
   ·
    exact absurd (List.mem_map.2 ⟨_, hx, by rw [← hy]⟩) h1
   ·
    exact val_one h2 hx hy
def MapIs (P : Program) (k : TypeId) (w : World) (m : Nat) (l : List (Value × Value)) : Prop :=
 ∃ es clock, w.heap[m]? = some (.map es clock) ∧ (es.toList.map fun e => (e.key, e.val)).Perm l ∧ (l.map Prod.fst).Nodup ∧ ∀ p ∈ l, ∃ lit, keyOf P k p.1 = some lit
section
variable {P : Program} {k : TypeId} {w : World} {m : Nat} {l l' : List (Value × Value)}
theorem MapIs.perm (h : MapIs P k w m l) (hp : l.Perm l') : MapIs P k w m l' := by
 obtain ⟨es, c, h1, h2, h3, h4⟩ := h
 exact ⟨es, c, h1, h2.trans hp, (hp.map _).nodup_iff.1 h3, fun p hm => h4 p (hp.mem_iff.2 hm)⟩
theorem MapIs.lt (h : MapIs P k w m l) : m < w.heap.size := by
 obtain ⟨es, c, h1, _⟩ := h
 exact (Array.getElem?_eq_some_iff.1 h1).1
theorem MapIs.kept {S : Nat → Prop} {w' : World} (h : MapIs P k w m l) (hK : Keeps S w w') (hn : ¬ S m) : MapIs P k w' m l := by
 have hlt := h.lt
 obtain ⟨es, c, h1, h2⟩ := h
 exact ⟨es, c, (hK.block m hlt hn).trans h1, h2⟩
theorem MapIs.new (P : Program) (k : TypeId) (w : World) : MapIs P k (w.alloc (.map #[] 0)) w.heap.size [] :=
 ⟨#[], 0, (MapKept.heap_alloc w _).1, by simp, by simp, by simp⟩
theorem MapIs.entries {es : Array MapEntry} (h2 : (es.toList.map fun e => (e.key, e.val)).Perm l) (h4 : ∀ p ∈ l, ∃ lit, keyOf P k p.1 = some lit) : ∀ e ∈ es.toList, ∃ lit, keyOf P k e.key = some lit :=
 fun e he => h4 (e.key, e.val) (h2.mem_iff.1 (List.mem_map.2 ⟨e, he, rfl⟩))
variable {t e : TypeId}
theorem MapIs.look_none (h : MapIs P k w m l) (K : Maps.Keyed P k) (ht : P.underlying t = some (.map k e)) {z : Value} (hz : (zeroValue e).run P w = .ok z w) {key : Value} {kl : Lit} (hkey : keyOf P k key = some kl)
  (hn : ∀ p ∈ l, p.1 ≠ key) : (Instr.lookup t (.map (some m)) key false).run P w = .ok z w := by
 obtain ⟨es, c, h1, h2, h3, h4⟩ := h
 rcases K.find w hkey es.toList (MapIs.entries h2 h4) with ⟨f1, _⟩ | ⟨j, e0, f1, f2, f3⟩
 ·
  simp [Instr.lookup, run_underlying ht, MapKept.run_getObj_map h1, K.check w _ hkey, f1, hz, Result.andThen]
 ·
  exact absurd f3 (hn (e0.key, e0.val) (h2.mem_iff.1 (List.mem_map.2 ⟨e0, List.mem_of_getElem? f2, rfl⟩)))
theorem MapIs.look_some (h : MapIs P k w m l) (K : Maps.Keyed P k) (ht : P.underlying t = some (.map k e)) {key v : Value} {kl : Lit} (hkey : keyOf P k key = some kl)
  (hm : (key, v) ∈ l) : (Instr.lookup t (.map (some m)) key false).run P w = .ok v w := by
 obtain ⟨es, c, h1, h2, h3, h4⟩ := h
 rcases K.find w hkey es.toList (MapIs.entries h2 h4) with ⟨f1, f2⟩ | ⟨j, e0, f1, f2, f3⟩
 ·
  obtain ⟨e0, he0, h0⟩ := List.mem_map.1 (h2.mem_iff.2 hm)
  exact absurd (congrArg Prod.fst h0) (f2 e0 he0)
 ·
  have hm0 : (e0.key, e0.val) ∈ l := h2.mem_iff.1 (List.mem_map.2 ⟨e0, List.mem_of_getElem? f2, rfl⟩)
  have hv : e0.val = v := by
   rw [f3] at hm0
   exact val_one h3 hm0 hm
  simp [Instr.lookup, run_underlying ht, MapKept.run_getObj_map h1, K.check w _ hkey, f1, hv, Result.andThen]
theorem MapIs.store (h : MapIs P k w m l) (K : Maps.Keyed P k) (ht : P.underlying t = some (.map k e)) {key v : Value} {kl : Lit} (hkey : keyOf P k key = some kl) (hroom : l.length < maxLen)
  (hn : ∀ p ∈ l, p.1 ≠ key) : ∃ w', (Instr.mapUpdate t (.map (some m)) key v).run P w = .ok () w' ∧ MapIs P k w' m ((key, v) :: l) ∧ Keeps (fun b => b = m) w w' := by
 obtain ⟨es, c, h1, h2, h3, h4⟩ := h
 rcases K.find w hkey es.toList (MapIs.entries h2 h4) with ⟨f1, _⟩ | ⟨j, e0, f1, f2, f3⟩
 ·
  have hsz : es.size < maxLen := by
   have := h2.length_eq
   simp at this; omega
  refine ⟨ChangeMaps.setBlock w m (.map (es.push ⟨key, v, c⟩) (c + 1)), ?_, ⟨es.push ⟨key, v, c⟩, c + 1, ChangeMaps.heap_setBlock_same h1 _, ?_, ?_, ?_⟩, ⟨rfl, rfl, rfl, by simp [ChangeMaps.setBlock], fun i _ hi => ChangeMaps.heap_setBlock_other h1 _ hi⟩⟩
  ·
   simp [Instr.mapUpdate, run_underlying ht, MapKept.run_getObj_map h1, K.check w false hkey, f1, MapKept.run_setObj_map _ h1, Result.andThen, ChangeMaps.setBlock]
  ·
   rw [Array.toList_push, List.map_append]
   exact (List.perm_append_singleton _ _).trans (h2.cons _)
  ·
   simp only [List.map_cons, List.nodup_cons]
   refine ⟨fun hm => ?_, h3⟩
   obtain ⟨p, hp, he⟩ := List.mem_map.1 hm
   exact hn p hp he
  ·
   intro p hp
   rcases List.mem_cons.1 hp with rfl | hp
   ·
    exact ⟨kl, hkey⟩
   ·
    exact h4 p hp
 ·
  exact absurd f3 (hn (e0.key, e0.val) (h2.mem_iff.1 (List.mem_map.2 ⟨e0, List.mem_of_getElem? f2, rfl⟩)))
theorem MapIs.drop {A C : List (Value × Value)} {key v : Value} (h : MapIs P k w m (A ++ (key, v) :: C)) (K : Maps.Keyed P k) (ht : P.underlying t = some (.map k e)) {kl : Lit} (hkey : keyOf P k key = some kl) :
  ∃ w', (∀ ty, (Builtin.delete_ #[t, k] ty #[.map (some m), key]).run P w = .ok (.tuple #[]) w') ∧ MapIs P k w' m (A ++ C) ∧ Keeps (fun b => b = m) w w' := by
 obtain ⟨es, c, h1, h2, h3, h4⟩ := h
 rcases K.find w hkey es.toList (MapIs.entries h2 h4) with ⟨f1, f2⟩ | ⟨j, e0, f1, f2, f3⟩
 ·
  obtain ⟨e0, he0, h0⟩ := List.mem_map.1 (h2.mem_iff.2 (show (key, v) ∈ A ++ (key, v) :: C by simp))
  exact absurd (congrArg Prod.fst h0) (f2 e0 he0)
 ·
  have hjl : j < es.toList.length := (List.getElem?_eq_some_iff.1 f2).1
  have hjs : j < es.size := by simpa using hjl
  have hsub : (es.eraseIdxIfInBounds j).toList = es.toList.eraseIdx j := by
   unfold Array.eraseIdxIfInBounds
   rw [dif_pos hjs]
   simp
  have hlist : es.toList = es.toList.take j ++ e0 :: es.toList.drop (j + 1) := by
   have := List.getElem_of_getElem? f2
   obtain ⟨hh, he⟩ := this
   rw [← he, List.getElem_cons_drop, List.take_append_drop]
  have hperm : ((es.toList.eraseIdx j).map fun e => (e.key, e.val)).Perm (A ++ C) := by
   have hm0 : (e0.key, e0.val) ∈ A ++ (key, v) :: C := h2.mem_iff.1 (List.mem_map.2 ⟨e0, List.mem_of_getElem? f2, rfl⟩)
   have hv : e0.val = v := by
    rw [f3] at hm0
    exact val_one h3 hm0 (show (key, v) ∈ A ++ (key, v) :: C by simp)
   rw [hlist, List.map_append, List.map_cons, f3, hv] at h2
   have h5 := (List.perm_middle.symm.trans (h2.trans List.perm_middle)).cons_inv
   rw [List.eraseIdx_eq_take_drop_succ, List.map_append]
   exact h5
  refine ⟨ChangeMaps.setBlock w m (.map (es.eraseIdxIfInBounds j) c), fun ty => ?_, ⟨_, c, ChangeMaps.heap_setBlock_same h1 _, by rw [hsub]; exact hperm, ?_, fun p hp => h4 p ?_⟩, ⟨rfl, rfl, rfl, by simp [ChangeMaps.setBlock], fun i _ hi => ChangeMaps.heap_setBlock_other h1 _ hi⟩⟩
  ·
   simp [Builtin.delete_, run_underlying ht, MapKept.run_getObj_map h1, K.check w _ hkey, f1, MapKept.run_setObj_map _ h1, Result.andThen, ChangeMaps.setBlock]
  ·
   refine h3.sublist ?_
   simp
  ·
   rcases List.mem_append.1 hp with h | h
   ·
    simp [h]
   ·
    simp [h]
end
def kv (e p : Int) : Value := .agg #[.int .i64 e, .int .i64 p]
theorem kv_inj {a b c d : Int} (h : kv a b = kv c d) : a = c ∧ b = d := by
 unfold kv at h
 simpa using h
theorem law73 : Maps.Keyed Tryz.prog 73 := Maps.Keyed.of_law (deep_law (m := 2) (by decide) (by kernel_rfl) (by kernel_rfl) (by kernel_rfl))
theorem key73 (e p : Int) (he : I64 e) (hp : I64 p) : ∃ l, keyOf Tryz.prog 73 (kv e p) = some l := by
 have h1 : Tryz.prog.cellsOf 73 = 2 := by kernel_rfl
 have h2 : Tryz.prog.cellsOf 3 = 1 := by kernel_rfl
 have h3 : ∃ d, Tryz.prog.types.size + 1 = d + 2 := ⟨230, by kernel_rfl⟩
 have h4 : Tryz.prog.keyType 73 = true := by kernel_rfl
 have h5 : (kv e p).formed Tryz.prog 73 = true := by unfold kv; kernel_rfl
 obtain ⟨d, hd⟩ := h3
 unfold keyOf
 rw [Tryz.underlying73]
 simp only [h4, h5, hd]
 simp [kv, Value.cells, Program.keyLits, Tryz.underlying73, Tryz.underlying3, h1, h2, WalkArith.wf_i64 he, WalkArith.wf_i64 hp]
theorem under69 : Tryz.prog.underlying 69 = some (.map 73 57) := by kernel_rfl
section
variable {w : World} {m : Nat} {l : List (Value × Value)}
theorem MapIs.ask_none (h : MapIs Tryz.prog 73 w m l) {key : Value} {kl : Lit} (hkey : keyOf Tryz.prog 73 key = some kl) (hn : ∀ p ∈ l, p.1 ≠ key) :
  (Instr.lookup 69 (.map (some m)) key true).run Tryz.prog w = .ok (.tuple #[.slice none 0 0, .bool false]) w := by
 have hz : (zeroValue 57).run Tryz.prog w = .ok (.slice none 0 0) w := by kernel_rfl
 obtain ⟨es, c, h1, h2, h3, h4⟩ := h
 rcases law73.find w hkey es.toList (MapIs.entries h2 h4) with ⟨f1, _⟩ | ⟨j, e0, f1, f2, f3⟩
 ·
  simp [Instr.lookup, run_underlying under69, MapKept.run_getObj_map h1, law73.check w _ hkey, f1, hz, Result.andThen]
 ·
  exact absurd f3 (hn (e0.key, e0.val) (h2.mem_iff.1 (List.mem_map.2 ⟨e0, List.mem_of_getElem? f2, rfl⟩)))
theorem MapIs.ask_some (h : MapIs Tryz.prog 73 w m l) {key v : Value} {kl : Lit} (hkey : keyOf Tryz.prog 73 key = some kl) (hm : (key, v) ∈ l) :
  (Instr.lookup 69 (.map (some m)) key true).run Tryz.prog w = .ok (.tuple #[v, .bool true]) w := by
 obtain ⟨es, c, h1, h2, h3, h4⟩ := h
 rcases law73.find w hkey es.toList (MapIs.entries h2 h4) with ⟨f1, f2⟩ | ⟨j, e0, f1, f2, f3⟩
 ·
  obtain ⟨e0, he0, h0⟩ := List.mem_map.1 (h2.mem_iff.2 hm)
  exact absurd (congrArg Prod.fst h0) (f2 e0 he0)
 ·
  have hm0 : (e0.key, e0.val) ∈ l := h2.mem_iff.1 (List.mem_map.2 ⟨e0, List.mem_of_getElem? f2, rfl⟩)
  have hv : e0.val = v := by
   rw [f3] at hm0
   exact val_one h3 hm0 hm
  simp [Instr.lookup, run_underlying under69, MapKept.run_getObj_map h1, law73.check w _ hkey, f1, hv, Result.andThen]
end
theorem zero57 (w : World) : (zeroValue 57).run Tryz.prog w = .ok (.slice none 0 0) w := by kernel_rfl
end Go.Proofs.YtfbapgcopidbpaaGreat
namespace Go.Proofs.YtfbapgcopidbpaaGreat
open Go.RowKit
open Mq (SegW wvs wvs_length wvs_get run_make_words run_copy_wb segW_of_blk)
set_option linter.unusedVariables false
set_option maxRecDepth 6000
set_option maxHeartbeats 400000 in
theorem copied_any (a : Option Addr) (c : Nat) (xs : List UInt32) (w : World) (hx : SegW w a xs) (hl : xs.length ≤ 1048576) :
  Calls Tryz.prog 46 #[.slice a xs.length c] w fun e w' => e = .returned (.slice (some ⟨w.heap.size, 0, none⟩) xs.length xs.length) ∧ Blk w' w.heap.size (wvs xs) 27 ∧ Keeps (fun _ => False) w w' := by
 have hmk := run_make_words (w := w) xs.length (by omega)
 obtain ⟨W1, hW⟩ : ∃ W1, W1 = w.alloc (.cells (wvs (List.replicate xs.length 0)).toArray 27) := ⟨_, rfl⟩
 rw [← hW] at hmk
 have hK1 : Keeps (fun _ => False) w W1 := by rw [hW]; exact (Keeps.refl _ w).alloc _
 have hB1 : Blk W1 w.heap.size (wvs (List.replicate xs.length 0)) 27 := by rw [hW]; exact Blk.new w _ 27
 have hs1 : SegW W1 a xs := hx.kept hK1 (fun _ _ e => e)
 have hcp := fun ty => run_copy_wb (w := W1) ty w.heap.size 0 xs.length _ 27 hB1 a c xs hs1 (by simp [wvs_length])
 have e : (wvs (List.replicate xs.length 0)).take 0 ++ wvs xs ++ (wvs (List.replicate xs.length 0)).drop (0 + xs.length) = wvs xs := by simp [wvs]
 rw [e] at hcp
 obtain ⟨W3, hW3⟩ : ∃ W3, W3 = W1.setRow w.heap.size (wvs xs).toArray := ⟨_, rfl⟩
 have hB3 : Blk W3 w.heap.size (wvs xs) 27 := by rw [hW3]; exact hB1.setRow _
 have hK3 : Keeps (fun _ => False) w W3 := by rw [hW3]; exact hK1.setRow _ _ (fun h => by omega)
 rw [← hW3] at hcp
 obtain ⟨n, hnn⟩ : ∃ n, n = xs.length := ⟨_, rfl⟩
 rw [← hnn] at hmk hcp ⊢
 have HM : Hid (_ = _) := hmk
 have HC : Hid (∀ ty, _) := hcp
 clear hmk hnn hcp hW3 hW hs1 hB1 hK1 e
 go_enter Tryz.func46, Tryz.ntmps46
 go_wp2_with (at_make; refine wpList_make_run rfl (.tmp 5) (.tmp 5) 57 rfl (.int .i64 n) (.int .i64 n) (.slice (some ⟨w.heap.size, 0, none⟩) n n) W1 rfl rfl HM.out ?_; refine Hid.out ?_)
 unfold Hid
 go_wp2_with (refine isCopy (.tmp 7) (.tmp 8) 57 57 rfl ?_; go_must (refine wpList_copy_run rfl (.tmp 7) (.tmp 8) 57 57 rfl (.slice (some ⟨w.heap.size, 0, none⟩) n n) (.slice a n c) (goInt n) W3 rfl rfl HC.out ?_))
 go_ret
 exact ⟨rfl, hB3, hK3⟩
structure Fd where
 p : Int
 e : Int
 a : Option Addr
 c : Nat
 ws : List UInt32
def Fd.vs (f : Fd) : List Value := [.int .i64 f.p, .int .i64 f.e, .slice f.a f.ws.length f.c]
def Fd.v (f : Fd) : Value := .agg #[.int .i64 f.p, .int .i64 f.e, .slice f.a f.ws.length f.c]
def Fd.key (f : Fd) : Int × Int := (f.e, f.p)
structure Fd.In (w : World) (N : Nat) (f : Fd) : Prop where
 seg : SegW w f.a f.ws
 lo : f.ws ≠ [] → ∀ y, f.a = some y → y.block < N
 len : f.ws.length ≤ f.c ∧ f.c ≤ maxLen
 p : I64 f.p
 e : I64 f.e
structure FdsIn (w : World) (N : Nat) (a : Option Addr) (c : Nat) (fs : List Fd) : Prop where
 seg : SegA Fd.vs 3 w a fs
 lo : fs ≠ [] → ∀ y, a = some y → y.block < N
 len : fs.length ≤ c ∧ c ≤ maxLen
 each : ∀ f ∈ fs, f.In w N
theorem segW_kept {S : Nat → Prop} {w w' : World} {a : Option Addr} {ws : List UInt32} (h : SegW w a ws) (hK : Keeps S w w') (hn : ws ≠ [] → ∀ x, a = some x → ¬ S x.block) : SegW w' a ws := by
 by_cases e : ws = []
 ·
  exact .inl e
 ·
  exact h.kept hK (hn e)
theorem Fd.In.kept {S : Nat → Prop} {w w' : World} {N : Nat} {f : Fd} (h : f.In w N) (hK : Keeps S w w') (hS : ∀ k, S k → N ≤ k) : f.In w' N :=
 ⟨segW_kept h.seg hK fun h1 y hy hs => by have := h.lo h1 y hy; have := hS _ hs; omega, h.lo, h.len, h.p, h.e⟩
theorem FdsIn.kept {S : Nat → Prop} {w w' : World} {N : Nat} {a : Option Addr} {c : Nat} {fs : List Fd} (h : FdsIn w N a c fs) (hK : Keeps S w w') (hS : ∀ k, S k → N ≤ k) : FdsIn w' N a c fs :=
 ⟨h.seg.kept hK fun h1 y hy hs => by have := h.lo h1 y hy; have := hS _ hs; omega, h.lo, h.len, fun f hf => (h.each f hf).kept hK hS⟩
theorem momentOf_any (f : Fd) (w : World) : Calls Tryz.prog 53 #[f.v] w fun e w' => e = .returned (kv f.e f.p) ∧ Keeps (fun _ => False) w w' := by
 obtain ⟨p, e, a, c, ws⟩ := f
 obtain ⟨n, hn⟩ : ∃ n, n = ws.length := ⟨_, rfl⟩
 unfold Fd.v
 rw [← hn]
 clear hn
 go_enter Tryz.func53, Tryz.ntmps53
 go_wp2_with fail
 have hB := Blk.new (w.alloc (.cells #[.int .i64 p, .int .i64 e, .slice a n c] 59)) #[.int .i64 e, .int .i64 p] 73
 rw [World.size_alloc] at hB
 refine bodyPost_ret (results_cell_row rfl _ _ (w.heap.size + 1) 73 _ (0, 0) _ rfl hB Tryz.underlying73 rfl (by kernel_rfl)) rfl ?_
 exact ⟨rfl, ((Keeps.refl _ _).alloc _).alloc _⟩
def Fd.ok (x : Cfg) (f : Fd) : Prop := 0 ≤ f.p ∧ f.p < x.ps.length ∧ 0 ≤ f.e ∧ f.e < 1073741824 ∧ ∀ P, x.ps[f.p.toNat]? = some P → (f.ws.length : Int) ≤ P.inputs
def MbP (w : World) (b : Bool) (e : Ending) (w' : World) : Prop := e = .returned (.bool b) ∧ Keeps (fun _ => False) w w'
theorem mayBe_p0 (x : Cfg) (p e : Int) (a : Option Addr) (c n : Nat) (w : World) (N : Nat) (hi : x.In w N) (hN : N ≤ w.heap.size) (h : p < 0) :
  Calls Tryz.prog 54 #[x.v, .agg #[.int .i64 p, .int .i64 e, .slice a n c]] w (MbP w false) := by
 obtain ⟨W, hW⟩ : ∃ W, W = (x.laid w).alloc (.cells #[.int .i64 p, .int .i64 e, .slice a n c] 59) := ⟨_, rfl⟩
 obtain ⟨C, hC⟩ : ∃ C, C = w.heap.size := ⟨_, rfl⟩
 have HO : Hid (One w x C N W ∧ Blk W (C + 1) [.int .i64 p, .int .i64 e, .slice a n c] 59) := by
  rw [hW, hC]
  refine ⟨(One.mk' hi hN).kept ((Keeps.refl _ _).alloc _), ?_⟩
  have := Blk.new (x.laid w) #[.int .i64 p, .int .i64 e, .slice a n c] 59
  simpa [Cfg.laid] using this
 obtain ⟨_, _, _, _, _, q5, _⟩ := HO.out.1.cells
 have f0 := HO.out.2.cell (i := 0) rfl
 have f1 := HO.out.2.cell (i := 1) rfl
 have f2 := HO.out.2.cell (i := 2) rfl
 obtain ⟨L, hL⟩ : ∃ L, L = x.ps.length := ⟨_, rfl⟩
 rw [← hL] at q5
 clear hL
 have n0 : ¬ (0 ≤ p) := by omega
 unfold Cfg.laid at hW
 clear hi hN
 go_enter Tryz.func54, Tryz.ntmps54
 go_upto_region 1 with fail
 rw [← hW, ← hC]
 clear hW hC
 refine wp_region_held_drew (S := (fun w' => w'.cell? ⟨C + 1, 0, none⟩ = some (.int .i64 p) ∧ w'.cell? ⟨C + 1, 1, none⟩ = some (.int .i64 e) ∧ w'.cell? ⟨C, 5, none⟩ = some (.slice x.pa L x.pc))) Tryz.mixd ⟨f0, f1, q5⟩ (fun hHeld => ?_)
 simp only [List.size_toArray, List.length_cons, List.length_nil, Nat.reduceAdd, Array.replicate_succ, Array.replicate_zero, List.push_toArray, List.nil_append, List.cons_append]
 refine tk 0 (.pointer (some ⟨C + 1, 0, none⟩)) hHeld ?_
 simp only [Act.put, s1, s2, s3]
 refine tk 1 (.int .i64 p) hHeld ?_
 simp only [Act.put, s1, s2, s3]
 refine tk 2 (.bool false) hHeld ?_
 simp only [Act.put, s1, s2, s3]
 refine tk 3 (.bool false) hHeld ?_
 simp only [Act.put, s1, s2, s3]
 refine tn 4 hHeld ?_
 simp only [Act.put, s1, s2, s3]
 refine tn 5 hHeld ?_
 simp only [Act.put, s1, s2, s3]
 refine tn 6 hHeld ?_
 simp only [Act.put, s1, s2, s3]
 refine tn 7 hHeld ?_
 simp only [Act.put, s1, s2, s3]
 refine tn 8 hHeld ?_
 simp only [Act.put, s1, s2, s3]
 refine tn 9 hHeld ?_
 simp only [Act.put, s1, s2, s3]
 refine tk 10 (.bool false) hHeld ?_
 simp only [Act.put, s1, s2, s3]
 refine tk 11 (.bool false) hHeld ?_
 simp only [Act.put, s1, s2, s3]
 refine tn 12 hHeld ?_
 simp only [Act.put, s1, s2, s3]
 refine tn 13 hHeld ?_
 simp only [Act.put, s1, s2, s3]
 refine tn 14 hHeld ?_
 simp only [Act.put, s1, s2, s3]
 refine tk 15 (.bool false) hHeld ?_
 simp only [Act.put, s1, s2, s3]
 refine tk 16 (.bool false) hHeld ?_
 simp only [Act.put, s1, s2, s3]
 refine tn 17 hHeld ?_
 simp only [Act.put, s1, s2, s3]
 refine tn 18 hHeld ?_
 simp only [Act.put, s1, s2, s3]
 refine tn 19 hHeld ?_
 simp only [Act.put, s1, s2, s3]
 refine tk 20 (.bool false) hHeld ?_
 simp only [Act.put, s1, s2, s3]
 refine tk 21 (.bool false) hHeld ?_
 simp only [Act.put, s1, s2, s3]
 refine tn 22 hHeld ?_
 simp only [Act.put, s1, s2, s3]
 refine tn 23 hHeld ?_
 simp only [Act.put, s1, s2, s3]
 refine tn 24 hHeld ?_
 simp only [Act.put, s1, s2, s3]
 refine tn 25 hHeld ?_
 simp only [Act.put, s1, s2, s3]
 refine tn 26 hHeld ?_
 simp only [Act.put, s1, s2, s3]
 refine tn 27 hHeld ?_
 simp only [Act.put, s1, s2, s3]
 refine tn 28 hHeld ?_
 simp only [Act.put, s1, s2, s3]
 refine tn 29 hHeld ?_
 simp only [Act.put, s1, s2, s3]
 refine tn 30 hHeld ?_
 simp only [Act.put, s1, s2, s3]
 refine tn 31 hHeld ?_
 simp only [Act.put, s1, s2, s3]
 refine tn 32 hHeld ?_
 simp only [Act.put, s1, s2, s3]
 refine tk 33 (.bool false) hHeld ?_
 simp only [Act.put, s1, s2, s3]
 refine tk 34 (.bool false) hHeld ?_
 simp only [Act.put, s1, s2, s3]
 refine wpAnyH_done (by kernel_rfl) ?_ _
 clear hHeld
 go_wp2_with fail
 go_ret
 exact ⟨rfl, HO.out.1.keeps.drew⟩
theorem mayBe_p1 (x : Cfg) (p e : Int) (a : Option Addr) (c n : Nat) (w : World) (N : Nat) (hi : x.In w N) (hN : N ≤ w.heap.size) (h0 : 0 ≤ p) (h : (x.ps.length : Int) ≤ p) :
  Calls Tryz.prog 54 #[x.v, .agg #[.int .i64 p, .int .i64 e, .slice a n c]] w (MbP w false) := by
 obtain ⟨W, hW⟩ : ∃ W, W = (x.laid w).alloc (.cells #[.int .i64 p, .int .i64 e, .slice a n c] 59) := ⟨_, rfl⟩
 obtain ⟨C, hC⟩ : ∃ C, C = w.heap.size := ⟨_, rfl⟩
 have HO : Hid (One w x C N W ∧ Blk W (C + 1) [.int .i64 p, .int .i64 e, .slice a n c] 59) := by
  rw [hW, hC]
  refine ⟨(One.mk' hi hN).kept ((Keeps.refl _ _).alloc _), ?_⟩
  have := Blk.new (x.laid w) #[.int .i64 p, .int .i64 e, .slice a n c] 59
  simpa [Cfg.laid] using this
 obtain ⟨_, _, _, _, _, q5, _⟩ := HO.out.1.cells
 have f0 := HO.out.2.cell (i := 0) rfl
 have f1 := HO.out.2.cell (i := 1) rfl
 have f2 := HO.out.2.cell (i := 2) rfl
 obtain ⟨L, hL⟩ : ∃ L, L = x.ps.length := ⟨_, rfl⟩
 rw [← hL] at q5 h
 clear hL
 have n0 : ¬ (p < (L : Int)) := by omega
 unfold Cfg.laid at hW
 clear hi hN
 go_enter Tryz.func54, Tryz.ntmps54
 go_upto_region 1 with fail
 rw [← hW, ← hC]
 clear hW hC
 refine wp_region_held_drew (S := (fun w' => w'.cell? ⟨C + 1, 0, none⟩ = some (.int .i64 p) ∧ w'.cell? ⟨C + 1, 1, none⟩ = some (.int .i64 e) ∧ w'.cell? ⟨C, 5, none⟩ = some (.slice x.pa L x.pc))) Tryz.mixd ⟨f0, f1, q5⟩ (fun hHeld => ?_)
 simp only [List.size_toArray, List.length_cons, List.length_nil, Nat.reduceAdd, Array.replicate_succ, Array.replicate_zero, List.push_toArray, List.nil_append, List.cons_append]
 refine tk 0 (.pointer (some ⟨C + 1, 0, none⟩)) hHeld ?_
 simp only [Act.put, s1, s2, s3]
 refine tk 1 (.int .i64 p) hHeld ?_
 simp only [Act.put, s1, s2, s3]
 refine tk 2 (.bool true) hHeld ?_
 simp only [Act.put, s1, s2, s3]
 refine tk 3 (.bool true) hHeld ?_
 simp only [Act.put, s1, s2, s3]
 refine tk 4 (.pointer (some ⟨C + 1, 0, none⟩)) hHeld ?_
 simp only [Act.put, s1, s2, s3]
 refine tk 5 (.int .i64 p) hHeld ?_
 simp only [Act.put, s1, s2, s3]
 refine tk 6 (.pointer (some ⟨C, 5, none⟩)) hHeld ?_
 simp only [Act.put, s1, s2, s3]
 refine tk 7 (.slice x.pa L x.pc) hHeld ?_
 simp only [Act.put, s1, s2, s3]
 refine tk 8 (.int .i64 (L : Int)) hHeld ?_
 simp only [Act.put, s1, s2, s3]
 refine tk 9 (.bool false) hHeld ?_
 simp only [Act.put, s1, s2, s3]
 refine tk 10 (.bool false) hHeld ?_
 simp only [Act.put, s1, s2, s3]
 refine tk 11 (.bool false) hHeld ?_
 simp only [Act.put, s1, s2, s3]
 refine tn 12 hHeld ?_
 simp only [Act.put, s1, s2, s3]
 refine tn 13 hHeld ?_
 simp only [Act.put, s1, s2, s3]
 refine tn 14 hHeld ?_
 simp only [Act.put, s1, s2, s3]
 refine tk 15 (.bool false) hHeld ?_
 simp only [Act.put, s1, s2, s3]
 refine tk 16 (.bool false) hHeld ?_
 simp only [Act.put, s1, s2, s3]
 refine tn 17 hHeld ?_
 simp only [Act.put, s1, s2, s3]
 refine tn 18 hHeld ?_
 simp only [Act.put, s1, s2, s3]
 refine tn 19 hHeld ?_
 simp only [Act.put, s1, s2, s3]
 refine tk 20 (.bool false) hHeld ?_
 simp only [Act.put, s1, s2, s3]
 refine tk 21 (.bool false) hHeld ?_
 simp only [Act.put, s1, s2, s3]
 refine tn 22 hHeld ?_
 simp only [Act.put, s1, s2, s3]
 refine tn 23 hHeld ?_
 simp only [Act.put, s1, s2, s3]
 refine tn 24 hHeld ?_
 simp only [Act.put, s1, s2, s3]
 refine tn 25 hHeld ?_
 simp only [Act.put, s1, s2, s3]
 refine tn 26 hHeld ?_
 simp only [Act.put, s1, s2, s3]
 refine tn 27 hHeld ?_
 simp only [Act.put, s1, s2, s3]
 refine tn 28 hHeld ?_
 simp only [Act.put, s1, s2, s3]
 refine tn 29 hHeld ?_
 simp only [Act.put, s1, s2, s3]
 refine tn 30 hHeld ?_
 simp only [Act.put, s1, s2, s3]
 refine tn 31 hHeld ?_
 simp only [Act.put, s1, s2, s3]
 refine tn 32 hHeld ?_
 simp only [Act.put, s1, s2, s3]
 refine tk 33 (.bool false) hHeld ?_
 simp only [Act.put, s1, s2, s3]
 refine tk 34 (.bool false) hHeld ?_
 simp only [Act.put, s1, s2, s3]
 refine wpAnyH_done (by kernel_rfl) ?_ _
 clear hHeld
 go_wp2_with fail
 go_ret
 exact ⟨rfl, HO.out.1.keeps.drew⟩
theorem mayBe_e0 (x : Cfg) (p e : Int) (a : Option Addr) (c n : Nat) (w : World) (N : Nat) (hi : x.In w N) (hN : N ≤ w.heap.size) (h0 : 0 ≤ p) (h1 : p < x.ps.length) (h : e < 0) :
  Calls Tryz.prog 54 #[x.v, .agg #[.int .i64 p, .int .i64 e, .slice a n c]] w (MbP w false) := by
 obtain ⟨W, hW⟩ : ∃ W, W = (x.laid w).alloc (.cells #[.int .i64 p, .int .i64 e, .slice a n c] 59) := ⟨_, rfl⟩
 obtain ⟨C, hC⟩ : ∃ C, C = w.heap.size := ⟨_, rfl⟩
 have HO : Hid (One w x C N W ∧ Blk W (C + 1) [.int .i64 p, .int .i64 e, .slice a n c] 59) := by
  rw [hW, hC]
  refine ⟨(One.mk' hi hN).kept ((Keeps.refl _ _).alloc _), ?_⟩
  have := Blk.new (x.laid w) #[.int .i64 p, .int .i64 e, .slice a n c] 59
  simpa [Cfg.laid] using this
 obtain ⟨_, _, _, _, _, q5, _⟩ := HO.out.1.cells
 have f0 := HO.out.2.cell (i := 0) rfl
 have f1 := HO.out.2.cell (i := 1) rfl
 have f2 := HO.out.2.cell (i := 2) rfl
 obtain ⟨L, hL⟩ : ∃ L, L = x.ps.length := ⟨_, rfl⟩
 rw [← hL] at q5 h1
 clear hL
 have n0 : ¬ (0 ≤ e) := by omega
 unfold Cfg.laid at hW
 clear hi hN
 go_enter Tryz.func54, Tryz.ntmps54
 go_upto_region 1 with fail
 rw [← hW, ← hC]
 clear hW hC
 refine wp_region_held_drew (S := (fun w' => w'.cell? ⟨C + 1, 0, none⟩ = some (.int .i64 p) ∧ w'.cell? ⟨C + 1, 1, none⟩ = some (.int .i64 e) ∧ w'.cell? ⟨C, 5, none⟩ = some (.slice x.pa L x.pc))) Tryz.mixd ⟨f0, f1, q5⟩ (fun hHeld => ?_)
 simp only [List.size_toArray, List.length_cons, List.length_nil, Nat.reduceAdd, Array.replicate_succ, Array.replicate_zero, List.push_toArray, List.nil_append, List.cons_append]
 refine tk 0 (.pointer (some ⟨C + 1, 0, none⟩)) hHeld ?_
 simp only [Act.put, s1, s2, s3]
 refine tk 1 (.int .i64 p) hHeld ?_
 simp only [Act.put, s1, s2, s3]
 refine tk 2 (.bool true) hHeld ?_
 simp only [Act.put, s1, s2, s3]
 refine tk 3 (.bool true) hHeld ?_
 simp only [Act.put, s1, s2, s3]
 refine tk 4 (.pointer (some ⟨C + 1, 0, none⟩)) hHeld ?_
 simp only [Act.put, s1, s2, s3]
 refine tk 5 (.int .i64 p) hHeld ?_
 simp only [Act.put, s1, s2, s3]
 refine tk 6 (.pointer (some ⟨C, 5, none⟩)) hHeld ?_
 simp only [Act.put, s1, s2, s3]
 refine tk 7 (.slice x.pa L x.pc) hHeld ?_
 simp only [Act.put, s1, s2, s3]
 refine tk 8 (.int .i64 (L : Int)) hHeld ?_
 simp only [Act.put, s1, s2, s3]
 refine tk 9 (.bool true) hHeld ?_
 simp only [Act.put, s1, s2, s3]
 refine tk 10 (.bool true) hHeld ?_
 simp only [Act.put, s1, s2, s3]
 refine tk 11 (.bool true) hHeld ?_
 simp only [Act.put, s1, s2, s3]
 refine tk 12 (.pointer (some ⟨C + 1, 1, none⟩)) hHeld ?_
 simp only [Act.put, s1, s2, s3]
 refine tk 13 (.int .i64 e) hHeld ?_
 simp only [Act.put, s1, s2, s3]
 refine tk 14 (.bool false) hHeld ?_
 simp only [Act.put, s1, s2, s3]
 refine tk 15 (.bool false) hHeld ?_
 simp only [Act.put, s1, s2, s3]
 refine tk 16 (.bool false) hHeld ?_
 simp only [Act.put, s1, s2, s3]
 refine tn 17 hHeld ?_
 simp only [Act.put, s1, s2, s3]
 refine tn 18 hHeld ?_
 simp only [Act.put, s1, s2, s3]
 refine tn 19 hHeld ?_
 simp only [Act.put, s1, s2, s3]
 refine tk 20 (.bool false) hHeld ?_
 simp only [Act.put, s1, s2, s3]
 refine tk 21 (.bool false) hHeld ?_
 simp only [Act.put, s1, s2, s3]
 refine tn 22 hHeld ?_
 simp only [Act.put, s1, s2, s3]
 refine tn 23 hHeld ?_
 simp only [Act.put, s1, s2, s3]
 refine tn 24 hHeld ?_
 simp only [Act.put, s1, s2, s3]
 refine tn 25 hHeld ?_
 simp only [Act.put, s1, s2, s3]
 refine tn 26 hHeld ?_
 simp only [Act.put, s1, s2, s3]
 refine tn 27 hHeld ?_
 simp only [Act.put, s1, s2, s3]
 refine tn 28 hHeld ?_
 simp only [Act.put, s1, s2, s3]
 refine tn 29 hHeld ?_
 simp only [Act.put, s1, s2, s3]
 refine tn 30 hHeld ?_
 simp only [Act.put, s1, s2, s3]
 refine tn 31 hHeld ?_
 simp only [Act.put, s1, s2, s3]
 refine tn 32 hHeld ?_
 simp only [Act.put, s1, s2, s3]
 refine tk 33 (.bool false) hHeld ?_
 simp only [Act.put, s1, s2, s3]
 refine tk 34 (.bool false) hHeld ?_
 simp only [Act.put, s1, s2, s3]
 refine wpAnyH_done (by kernel_rfl) ?_ _
 clear hHeld
 go_wp2_with fail
 go_ret
 exact ⟨rfl, HO.out.1.keeps.drew⟩
theorem mayBe_e1 (x : Cfg) (p e : Int) (a : Option Addr) (c n : Nat) (w : World) (N : Nat) (hi : x.In w N) (hN : N ≤ w.heap.size) (h0 : 0 ≤ p) (h1 : p < x.ps.length) (h2 : 0 ≤ e) (h : 1073741824 ≤ e) :
  Calls Tryz.prog 54 #[x.v, .agg #[.int .i64 p, .int .i64 e, .slice a n c]] w (MbP w false) := by
 obtain ⟨W, hW⟩ : ∃ W, W = (x.laid w).alloc (.cells #[.int .i64 p, .int .i64 e, .slice a n c] 59) := ⟨_, rfl⟩
 obtain ⟨C, hC⟩ : ∃ C, C = w.heap.size := ⟨_, rfl⟩
 have HO : Hid (One w x C N W ∧ Blk W (C + 1) [.int .i64 p, .int .i64 e, .slice a n c] 59) := by
  rw [hW, hC]
  refine ⟨(One.mk' hi hN).kept ((Keeps.refl _ _).alloc _), ?_⟩
  have := Blk.new (x.laid w) #[.int .i64 p, .int .i64 e, .slice a n c] 59
  simpa [Cfg.laid] using this
 obtain ⟨_, _, _, _, _, q5, _⟩ := HO.out.1.cells
 have f0 := HO.out.2.cell (i := 0) rfl
 have f1 := HO.out.2.cell (i := 1) rfl
 have f2 := HO.out.2.cell (i := 2) rfl
 obtain ⟨L, hL⟩ : ∃ L, L = x.ps.length := ⟨_, rfl⟩
 rw [← hL] at q5 h1
 clear hL
 have n0 : ¬ (e < 1073741824) := by omega
 unfold Cfg.laid at hW
 clear hi hN
 go_enter Tryz.func54, Tryz.ntmps54
 go_upto_region 1 with fail
 rw [← hW, ← hC]
 clear hW hC
 refine wp_region_held_drew (S := (fun w' => w'.cell? ⟨C + 1, 0, none⟩ = some (.int .i64 p) ∧ w'.cell? ⟨C + 1, 1, none⟩ = some (.int .i64 e) ∧ w'.cell? ⟨C, 5, none⟩ = some (.slice x.pa L x.pc))) Tryz.mixd ⟨f0, f1, q5⟩ (fun hHeld => ?_)
 simp only [List.size_toArray, List.length_cons, List.length_nil, Nat.reduceAdd, Array.replicate_succ, Array.replicate_zero, List.push_toArray, List.nil_append, List.cons_append]
 refine tk 0 (.pointer (some ⟨C + 1, 0, none⟩)) hHeld ?_
 simp only [Act.put, s1, s2, s3]
 refine tk 1 (.int .i64 p) hHeld ?_
 simp only [Act.put, s1, s2, s3]
 refine tk 2 (.bool true) hHeld ?_
 simp only [Act.put, s1, s2, s3]
 refine tk 3 (.bool true) hHeld ?_
 simp only [Act.put, s1, s2, s3]
 refine tk 4 (.pointer (some ⟨C + 1, 0, none⟩)) hHeld ?_
 simp only [Act.put, s1, s2, s3]
 refine tk 5 (.int .i64 p) hHeld ?_
 simp only [Act.put, s1, s2, s3]
 refine tk 6 (.pointer (some ⟨C, 5, none⟩)) hHeld ?_
 simp only [Act.put, s1, s2, s3]
 refine tk 7 (.slice x.pa L x.pc) hHeld ?_
 simp only [Act.put, s1, s2, s3]
 refine tk 8 (.int .i64 (L : Int)) hHeld ?_
 simp only [Act.put, s1, s2, s3]
 refine tk 9 (.bool true) hHeld ?_
 simp only [Act.put, s1, s2, s3]
 refine tk 10 (.bool true) hHeld ?_
 simp only [Act.put, s1, s2, s3]
 refine tk 11 (.bool true) hHeld ?_
 simp only [Act.put, s1, s2, s3]
 refine tk 12 (.pointer (some ⟨C + 1, 1, none⟩)) hHeld ?_
 simp only [Act.put, s1, s2, s3]
 refine tk 13 (.int .i64 e) hHeld ?_
 simp only [Act.put, s1, s2, s3]
 refine tk 14 (.bool true) hHeld ?_
 simp only [Act.put, s1, s2, s3]
 refine tk 15 (.bool true) hHeld ?_
 simp only [Act.put, s1, s2, s3]
 refine tk 16 (.bool true) hHeld ?_
 simp only [Act.put, s1, s2, s3]
 refine tk 17 (.pointer (some ⟨C + 1, 1, none⟩)) hHeld ?_
 simp only [Act.put, s1, s2, s3]
 refine tk 18 (.int .i64 e) hHeld ?_
 simp only [Act.put, s1, s2, s3]
 refine tk 19 (.bool false) hHeld ?_
 simp only [Act.put, s1, s2, s3]
 refine tk 20 (.bool false) hHeld ?_
 simp only [Act.put, s1, s2, s3]
 refine tk 21 (.bool false) hHeld ?_
 simp only [Act.put, s1, s2, s3]
 refine tn 22 hHeld ?_
 simp only [Act.put, s1, s2, s3]
 refine tn 23 hHeld ?_
 simp only [Act.put, s1, s2, s3]
 refine tn 24 hHeld ?_
 simp only [Act.put, s1, s2, s3]
 refine tn 25 hHeld ?_
 simp only [Act.put, s1, s2, s3]
 refine tn 26 hHeld ?_
 simp only [Act.put, s1, s2, s3]
 refine tn 27 hHeld ?_
 simp only [Act.put, s1, s2, s3]
 refine tn 28 hHeld ?_
 simp only [Act.put, s1, s2, s3]
 refine tn 29 hHeld ?_
 simp only [Act.put, s1, s2, s3]
 refine tn 30 hHeld ?_
 simp only [Act.put, s1, s2, s3]
 refine tn 31 hHeld ?_
 simp only [Act.put, s1, s2, s3]
 refine tn 32 hHeld ?_
 simp only [Act.put, s1, s2, s3]
 refine tk 33 (.bool false) hHeld ?_
 simp only [Act.put, s1, s2, s3]
 refine tk 34 (.bool false) hHeld ?_
 simp only [Act.put, s1, s2, s3]
 refine wpAnyH_done (by kernel_rfl) ?_ _
 clear hHeld
 go_wp2_with fail
 go_ret
 exact ⟨rfl, HO.out.1.keeps.drew⟩
theorem mayBe_w (x : Cfg) (p e : Int) (a : Option Addr) (c n : Nat) (w : World) (N : Nat) (hi : x.In w N) (hN : N ≤ w.heap.size) (h0 : 0 ≤ p) (h1 : p < x.ps.length) (h2 : 0 ≤ e) (h3 : e < 1073741824) (P : Par) (hP : x.ps[p.toNat]? = some P) (h : P.inputs < n) :
  Calls Tryz.prog 54 #[x.v, .agg #[.int .i64 p, .int .i64 e, .slice a n c]] w (MbP w false) := by
 obtain ⟨i, rfl⟩ : ∃ i : Nat, p = i := ⟨p.toNat, by omega⟩
 rw [Int.toNat_natCast] at hP
 obtain ⟨W, hW⟩ : ∃ W, W = (x.laid w).alloc (.cells #[.int .i64 (i : Int), .int .i64 e, .slice a n c] 59) := ⟨_, rfl⟩
 obtain ⟨C, hC⟩ : ∃ C, C = w.heap.size := ⟨_, rfl⟩
 have HO : Hid (One w x C N W ∧ Blk W (C + 1) [.int .i64 (i : Int), .int .i64 e, .slice a n c] 59) := by
  rw [hW, hC]
  refine ⟨(One.mk' hi hN).kept ((Keeps.refl _ _).alloc _), ?_⟩
  have := Blk.new (x.laid w) #[.int .i64 (i : Int), .int .i64 e, .slice a n c] 59
  simpa [Cfg.laid] using this
 obtain ⟨_, _, _, _, _, q5, _⟩ := HO.out.1.cells
 have f0 := HO.out.2.cell (i := 0) rfl
 have f1 := HO.out.2.cell (i := 1) rfl
 have f2 := HO.out.2.cell (i := 2) rfl
 obtain ⟨g, o, hpa, hg⟩ := HO.out.1.cin.par hP
 have y4 := hg 4 _ rfl
 rw [hpa] at q5
 clear hg hP hpa
 obtain ⟨L, hL⟩ : ∃ L, L = x.ps.length := ⟨_, rfl⟩
 rw [← hL] at q5 h1
 clear hL
 have n0 : ¬ ((n : Int) ≤ P.inputs) := by omega
 unfold Cfg.laid at hW
 clear hi hN
 go_enter Tryz.func54, Tryz.ntmps54
 go_upto_region 1 with fail
 rw [← hW, ← hC]
 clear hW hC
 go_still Tryz.mixed
 go_wp2_with fail
 go_ret
 exact ⟨rfl, HO.out.1.keeps.drew⟩
theorem mayBe_ok (x : Cfg) (p e : Int) (a : Option Addr) (c n : Nat) (w : World) (N : Nat) (hi : x.In w N) (hN : N ≤ w.heap.size) (h0 : 0 ≤ p) (h1 : p < x.ps.length) (h2 : 0 ≤ e) (h3 : e < 1073741824) (P : Par) (hP : x.ps[p.toNat]? = some P) (h : (n : Int) ≤ P.inputs) :
  Calls Tryz.prog 54 #[x.v, .agg #[.int .i64 p, .int .i64 e, .slice a n c]] w (MbP w true) := by
 obtain ⟨i, rfl⟩ : ∃ i : Nat, p = i := ⟨p.toNat, by omega⟩
 rw [Int.toNat_natCast] at hP
 obtain ⟨W, hW⟩ : ∃ W, W = (x.laid w).alloc (.cells #[.int .i64 (i : Int), .int .i64 e, .slice a n c] 59) := ⟨_, rfl⟩
 obtain ⟨C, hC⟩ : ∃ C, C = w.heap.size := ⟨_, rfl⟩
 have HO : Hid (One w x C N W ∧ Blk W (C + 1) [.int .i64 (i : Int), .int .i64 e, .slice a n c] 59) := by
  rw [hW, hC]
  refine ⟨(One.mk' hi hN).kept ((Keeps.refl _ _).alloc _), ?_⟩
  have := Blk.new (x.laid w) #[.int .i64 (i : Int), .int .i64 e, .slice a n c] 59
  simpa [Cfg.laid] using this
 obtain ⟨_, _, _, _, _, q5, _⟩ := HO.out.1.cells
 have f0 := HO.out.2.cell (i := 0) rfl
 have f1 := HO.out.2.cell (i := 1) rfl
 have f2 := HO.out.2.cell (i := 2) rfl
 obtain ⟨g, o, hpa, hg⟩ := HO.out.1.cin.par hP
 have y4 := hg 4 _ rfl
 rw [hpa] at q5
 clear hg hP hpa
 obtain ⟨L, hL⟩ : ∃ L, L = x.ps.length := ⟨_, rfl⟩
 rw [← hL] at q5 h1
 clear hL
 unfold Cfg.laid at hW
 clear hi hN
 go_enter Tryz.func54, Tryz.ntmps54
 go_upto_region 1 with fail
 rw [← hW, ← hC]
 clear hW hC
 go_still Tryz.mixed
 go_wp2_with fail
 go_ret
 exact ⟨rfl, HO.out.1.keeps.drew⟩
theorem mayBe_yes (x : Cfg) (f : Fd) (w : World) (N : Nat) (hi : x.In w N) (hN : N ≤ w.heap.size) (h : f.ok x) : Calls Tryz.prog 54 #[x.v, f.v] w (MbP w true) := by
 obtain ⟨h0, h1, h2, h3, h4⟩ := h
 obtain ⟨P, hP⟩ : ∃ P, x.ps[f.p.toNat]? = some P := ⟨_, List.getElem?_eq_getElem (by omega)⟩
 exact mayBe_ok x f.p f.e f.a f.c f.ws.length w N hi hN h0 h1 h2 h3 P hP (h4 P hP)
theorem mayBe_no (x : Cfg) (f : Fd) (w : World) (N : Nat) (hi : x.In w N) (hN : N ≤ w.heap.size) (h : ¬ f.ok x) : Calls Tryz.prog 54 #[x.v, f.v] w (MbP w false) := by
 by_cases h0 : 0 ≤ f.p
 ·
  by_cases h1 : f.p < x.ps.length
  ·
   by_cases h2 : 0 ≤ f.e
   ·
    by_cases h3 : f.e < 1073741824
    ·
     obtain ⟨P, hP⟩ : ∃ P, x.ps[f.p.toNat]? = some P := ⟨_, List.getElem?_eq_getElem (by omega)⟩
     refine mayBe_w x f.p f.e f.a f.c f.ws.length w N hi hN h0 h1 h2 h3 P hP ?_
     refine Int.not_le.1 fun hc => h ⟨h0, h1, h2, h3, fun Q hQ => ?_⟩
     rw [hP] at hQ
     cases hQ
     exact hc
    ·
     exact mayBe_e1 x f.p f.e f.a f.c f.ws.length w N hi hN h0 h1 h2 (by omega)
   ·
    exact mayBe_e0 x f.p f.e f.a f.c f.ws.length w N hi hN h0 h1 (by omega)
  ·
   exact mayBe_p1 x f.p f.e f.a f.c f.ws.length w N hi hN h0 (by omega)
 ·
  exact mayBe_p0 x f.p f.e f.a f.c f.ws.length w N hi hN (by omega)
end Go.Proofs.YtfbapgcopidbpaaGreat
namespace Go.Proofs.YtfbapgcopidbpaaGreat
open Go.RowKit Go.Shelf
open Mq (SegW wvs wvs_length wvs_get run_make_words run_copy_wb segW_of_blk)
set_option linter.unusedVariables false
set_option maxRecDepth 6000
theorem wpList_delete_run {ops : Array Oper} {rest : List Oper} {o : Oper} {a : Act} {Q : Exit → Act → World → Prop} {P : Program} {w w' : World} (hgd : o.guard = none) (m x : Operand) (t k : TypeId)
  (ho : o.op = .call { callee := .builtin .delete, args := #[m, x], argTypes := #[t, k] }) (vm vx v' : Value) (hm : a.eval m = vm) (hx : a.eval x = vx)
  (hr : ∀ ty, (Builtin.delete_ #[t, k] ty #[vm, vx]).run P w = .ok v' w') (h : wpList P ops Q rest (a.put o.dst v') w') : wpList P ops Q (o :: rest) a w :=
 wpList_plain hgd fun _ hK => by
  unfold Oper.wp execOp
  simp only [ho, resolve, invoke, builtin, Sem.run_bind, Sem.run_pure, Result.andThen_ok, List.map_toArray, List.map_cons, List.map_nil, hm, hx, hr]
  exact hK _ _ h
theorem wpList_ask_run {ops : Array Oper} {rest : List Oper} {o : Oper} {a : Act} {Q : Exit → Act → World → Prop} {P : Program} {w : World} (hgd : o.guard = none) (m x : Operand) (t : TypeId)
  (ho : o.op = .lookup t m x true) (vm vx v' : Value) (hm : a.eval m = vm) (hx : a.eval x = vx)
  (hr : (Instr.lookup t vm vx true).run P w = .ok v' w) (h : wpList P ops Q rest (a.put o.dst v') w) : wpList P ops Q (o :: rest) a w :=
 wpList_plain hgd fun _ hK => by
  unfold Oper.wp execOp
  simp only [ho, hm, hx, hr, Sem.run_bind, Sem.run_pure, Result.andThen_ok]
  exact hK _ _ h
theorem run_makeMap_hint (n : Int) (w : World) : (Instr.makeMap 69 (some (.int .i64 n))).run Tryz.prog w = .ok (.map (some w.heap.size)) (w.alloc (.map #[] 0)) := by
 simp [Instr.makeMap, run_underlying under69, asInt, newObj, Result.andThen]
 rfl
structure Tr where
 e : Int
 p : Int
 g : Nat
 ws : List UInt32
def Tr.kv (r : Tr) : Value × Value := (Go.Proofs.YtfbapgcopidbpaaGreat.kv r.e r.p, .slice (some ⟨r.g, 0, none⟩) r.ws.length r.ws.length)
def Tr.k3 (r : Tr) : Int × Int × List UInt32 := (r.e, r.p, r.ws)
def Fd.k3 (f : Fd) : Int × Int × List UInt32 := (f.e, f.p, f.ws)
structure Td (w : World) (m lo : Nat) (R : List Tr) : Prop where
 map : MapIs Tryz.prog 73 w m (R.map Tr.kv)
 blk : ∀ r ∈ R, Blk w r.g (wvs r.ws) 27 ∧ lo ≤ r.g
 lom : lo ≤ m
theorem Td.kept {w w' : World} {m lo : Nat} {R : List Tr} (h : Td w m lo R) (hK : Keeps (fun _ => False) w w') : Td w' m lo R :=
 ⟨h.map.kept hK fun h => h, fun r hr => ⟨(h.blk r hr).1.kept hK fun h => h, (h.blk r hr).2⟩, h.lom⟩
structure TdI (w : World) (x : Cfg) (C N m : Nat) (a : Option Addr) (c : Nat) (fs : List Fd) (R : List Tr) (wr : World) : Prop where
 one : One w x C N wr
 fin : FdsIn wr N a c fs
 td : Td wr m w.heap.size R
theorem TdI.kept {w : World} {x : Cfg} {C N m : Nat} {a : Option Addr} {c : Nat} {fs : List Fd} {R : List Tr} {wr w' : World} (h : TdI w x C N m a c fs R wr) (hK : Keeps (fun _ => False) wr w') : TdI w x C N m a c fs R w' :=
 ⟨h.one.kept hK, h.fin.kept hK fun _ h => h.elim, h.td.kept hK⟩
end Go.Proofs.YtfbapgcopidbpaaGreat
