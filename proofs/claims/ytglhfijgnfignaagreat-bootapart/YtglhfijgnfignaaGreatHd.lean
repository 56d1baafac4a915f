import Derived.Test.YtglhfijgnfignaaGreatPX
import Derived.Test.YtglhfijgnfignaaGreatCn
import Derived.Handy
namespace Go.Proofs.YtglhfijgnfignaaGreat
open Go.RowKit Go.Shelf
open Mq
set_option linter.unusedVariables false
set_option maxRecDepth 6000
set_option linter.unusedSimpArgs false
theorem run_copy_min {w : World} (ty : TypeId) (g o dl dc : Nat) (l : List Value) (t : TypeId) (hg : Blk w g l t) (b sl sc : Nat) (l2 : List Value) (t2 : TypeId) (hb : Blk w b l2 t2) (xs : List UInt32)
  (hx : ∀ (j : Nat) (u : Value), (wvs xs)[j]? = some u → l2[j]? = some u) (hm : xs.length = Nat.min sl dl) (hfit : o + xs.length ≤ l.length) :
  (Builtin.copy_ #[43, 43] ty #[.slice (some ⟨g, o, none⟩) dl dc, .slice (some ⟨b, 0, none⟩) sl sc]).run Tryz.prog w = .ok (goInt xs.length) (w.setRow g (l.take o ++ wvs xs ++ l.drop (o + xs.length)).toArray) := by
 have h := run_copy_row Tryz.prog w 43 43 ty 58 g o dl dc ⟨b, 0, none⟩ sl sc l.toArray t (wvs xs) Tryz.underlying43 Tryz.size58 hg (by rw [wvs_length]; exact hm) (by
   intro j v hj
   rw [addr_add, Nat.zero_add]
   exact hb.cell (hx j v hj)) (by rw [wvs_length]; simpa using hfit) (wvs_one xs)
 rw [wvs_length] at h
 exact h
structure Wrd where
 sv : Nat
 st : Nat
 en : UInt32
 rs : Int
 ou : Int
 fh : Value
 fa : Value
def Wrd.vs (d : Wrd) : List Value := [.int .i64 (d.sv : Int), .int .i64 (d.st : Int), .int .u32 (d.en.toNat : Int), .int .u32 d.rs, .int .u32 d.ou, d.fh, d.fa]
def Wrd.v (d : Wrd) : Value := .agg #[.int .i64 (d.sv : Int), .int .i64 (d.st : Int), .int .u32 (d.en.toNat : Int), .int .u32 d.rs, .int .u32 d.ou, d.fh, d.fa]
def cxv (ys : List UInt32) : Value := .agg (wvs ys).toArray
theorem save_any (d : Wrd) (b g : Nat) (xs ys : List UInt32) (w : World) (h : Mm w b g xs) (hy : ys.length = 17) (hf : d.sv + 17 ≤ xs.length) :
  Calls Tryz.prog 69 #[d.v, .pointer (some ⟨b, 0, none⟩), cxv ys] w fun e w' => e = .returned (.int .i64 0) ∧ Mm w' b g (lay xs d.sv ys) ∧ Keeps (· = g) w w' := by
 obtain ⟨D, hD⟩ : ∃ D, D = w.heap.size := ⟨_, rfl⟩
 obtain ⟨W, hW⟩ : ∃ W, W = (w.alloc (.cells #[.int .i64 (d.sv : Int), .int .i64 (d.st : Int), .int .u32 (d.en.toNat : Int), .int .u32 d.rs, .int .u32 d.ou, d.fh, d.fa] 149)).alloc (.cells (wvs ys).toArray 156) := ⟨_, rfl⟩
 have hK : Keeps (fun _ => False) w W := by rw [hW]; exact ((Keeps.refl _ w).alloc _).alloc _
 have hM : Mm W b g xs := h.kept hK (fun h => h) (fun h => h)
 have hB1 : Blk W D d.vs 149 := by rw [hW, hD]; exact (Blk.new w _ 149).alloc _
 have hB2 : Blk W (D + 1) (wvs ys) 156 := by
  have := Blk.new (w.alloc (.cells #[.int .i64 (d.sv : Int), .int .i64 (d.st : Int), .int .u32 (d.en.toNat : Int), .int .u32 d.rs, .int .u32 d.ou, d.fh, d.fa] 149)) (wvs ys).toArray 156
  rw [hW, hD]
  simpa using this
 have hS : W.heap.size = D + 2 := by rw [hW, hD]; simp
 have hmk : (Instr.makeSlice 43 (.int .i64 17) (.int .i64 17)).run Tryz.prog W = .ok (.slice (some ⟨D + 2, 0, none⟩) 17 17) (W.alloc (.cells (wvs (List.replicate 17 0)).toArray 58)) := by rw [← hS]; exact run_make_words (w := W) 17 (by omega)
 obtain ⟨W1, hW1⟩ : ∃ W1, W1 = W.alloc (.cells (wvs (List.replicate 17 0)).toArray 58) := ⟨_, rfl⟩
 rw [← hW1] at hmk
 have hK1 : Keeps (fun _ => False) w W1 := by rw [hW1]; exact hK.alloc _
 have hM1 : Mm W1 b g xs := h.kept hK1 (fun h => h) (fun h => h)
 have hA1 : Blk W1 D d.vs 149 := by rw [hW1]; exact hB1.alloc _
 have hA2 : Blk W1 (D + 1) (wvs ys) 156 := by rw [hW1]; exact hB2.alloc _
 have hA3 : Blk W1 (D + 2) (wvs (List.replicate 17 0)) 58 := by rw [hW1, ← hS]; exact Blk.new W _ 58
 have hcp := fun ty => run_copy_min (w := W1) ty (D + 2) 0 17 17 _ 58 hA3 (D + 1) 16 16 (wvs ys) 156 hA2 (ys.take 16) (by
  intro j u hu
  rw [wvs_take, List.getElem?_take] at hu
  split at hu
  ·
   exact hu
  ·
   cases hu) (by simp [hy]) (by simp [hy, wvs_length])
 obtain ⟨W2, hW2⟩ : ∃ W2, W2 = W1.setRow (D + 2) (List.take 0 (wvs (List.replicate 17 0)) ++ wvs (ys.take 16) ++ List.drop (0 + (ys.take 16).length) (wvs (List.replicate 17 0))).toArray := ⟨_, rfl⟩
 rw [← hW2] at hcp
 have hD1 : Blk W2 D d.vs 149 := by rw [hW2]; exact hA1.setRow_ne (by omega) _
 have hD2 : Blk W2 (D + 1) (wvs ys) 156 := by rw [hW2]; exact hA2.setRow_ne (by omega) _
 have hD3 : Blk W2 (D + 2) (List.take 0 (wvs (List.replicate 17 0)) ++ wvs (ys.take 16) ++ List.drop (0 + (ys.take 16).length) (wvs (List.replicate 17 0))) 58 := by rw [hW2]; exact hA3.setRow _
 have hK2 : Keeps (fun _ => False) w W2 := by rw [hW2]; exact hK1.setRow _ _ (fun h => by omega)
 have hM2 : Mm W2 b g xs := h.kept hK2 (fun h => h) (fun h => h)
 have hg : (wvs ys)[16]? = some (.int .u32 (ys[16].toNat : Int)) := wvs_get ys 16 (by omega)
 have q0 := hD1.cell (i := 0) rfl
 have q1 := hD2.cell hg
 have q2 := hD3.cell (i := 16) (v := .int .u32 0) (by
  match ys, hy with
  | [y0, y1, y2, y3, y4, y5, y6, y7, y8, y9, y10, y11, y12, y13, y14, y15, y16], _ => rfl)
 have q3 := hD3.frozen 16
 obtain ⟨W3, hW3⟩ : ∃ W3, W3 = W2.setCell ⟨D + 2, 16, none⟩ (.int .u32 (ys[16].toNat : Int)) := ⟨_, rfl⟩
 have hE3 : Blk W3 (D + 2) (wvs ys) 58 := by
  have := hD3.setCell 16 (.int .u32 (ys[16].toNat : Int))
  rw [hW3]
  refine Eq.mp (congrArg (fun l => Blk _ _ l _) ?_) this
  match ys, hy with
  | [y0, y1, y2, y3, y4, y5, y6, y7, y8, y9, y10, y11, y12, y13, y14, y15, y16], _ => rfl
 have hE1 : Blk W3 D d.vs 149 := by rw [hW3]; exact hD1.setCell_ne (show D ≠ D + 2 by omega) _
 have hK3 : Keeps (fun _ => False) w W3 := by rw [hW3]; exact hK2.setCell _ _ (fun h => absurd h (by show ¬ D + 2 < _; omega))
 have hM3 : Mm W3 b g xs := h.kept hK3 (fun h => h) (fun h => h)
 have r0 := hE1.cell (i := 0) rfl
 have HL : Hid (Calls _ _ _ W3 _) := lay_in b g xs d.sv (some ⟨D + 2, 0, none⟩) 17 ys W3 hM3 (segW_of_blk hE3) (by omega)
 rw [hy] at HL
 obtain ⟨P, hP⟩ : ∃ P, P = (ys[16].toNat : Int) := ⟨_, rfl⟩
 rw [← hP] at q1 hW3
 have HM : Hid (_ = _) := hmk
 have HC : Hid (∀ ty, _) := hcp
 have H3 : Hid (Keeps (fun _ => False) w W3) := hK3
 have hQ : W2.setCell ⟨D + 2, 16, none⟩ (.int .u32 P) = W3 := hW3.symm
 unfold Wrd.v cxv
 clear hmk hcp hK hM hB1 hB2 hS hW1 hK1 hM1 hA1 hA2 hA3 hW2 hD1 hD2 hD3 hK2 hM2 hg hE3 hE1 hK3 hM3 hP hW3 hf h
 go_enter Tryz.func69, Tryz.ntmps69
 go_upto_region 1 with fail
 rw [← hW, ← hD]
 clear hW hD
 go_wp2_with (at_make; refine wpList_make_run rfl (.const (.int .i64 17)) (.const (.int .i64 17)) 43 rfl (.int .i64 17) (.int .i64 17) (.slice (some ⟨D + 2, 0, none⟩) 17 17) W1 rfl rfl HM.out ?_; refine Hid.out ?_)
 unfold Hid
 go_wp2_with (refine isCopy (.tmp 9) (.tmp 11) 43 43 rfl ?_; go_must (refine wpList_copy_run rfl (.tmp 9) (.tmp 11) 43 43 rfl (.slice (some ⟨D + 2, 0, none⟩) 17 17) (.slice (some ⟨D + 1, 0, none⟩) 16 16) (goInt (ys.take 16).length) W2 rfl rfl HC.out ?_); refine Hid.out ?_)
 unfold Hid
 go_upto_region 4 with fail
 clear hQ q0 q1 q2 q3
 go_wp2_with fail
 refine HL.out.mono ?_
 rintro e w1 ⟨rfl, h1, h2⟩
 have H1 : Hid (Mm _ _ _ _) := h1
 have H2 : Hid (Keeps _ _ _) := h2
 clear h1 h2
 go_wp2
 go_ret
 exact ⟨rfl, H1.out, (H3.out.mono fun _ _ h => h.elim).trans H2.out fun _ _ h => h⟩
def Wrd.box (d : Wrd) (w : World) : World := w.alloc (.cells #[.int .i64 (d.sv : Int), .int .i64 (d.st : Int), .int .u32 (d.en.toNat : Int), .int .u32 d.rs, .int .u32 d.ou, d.fh, d.fa] 149)
theorem Wrd.box_keeps (d : Wrd) (w : World) : Keeps (fun _ => False) w (d.box w) := (Keeps.refl _ w).alloc _
theorem Wrd.box_blk (d : Wrd) (w : World) : Blk (d.box w) w.heap.size d.vs 149 := Blk.new w _ 149
theorem write_any (d : Wrd) (b g : Nat) (xs : List UInt32) (K : Int) (k : Nat) (hk : K = k) (a : Option Addr) (c : Nat) (ws : List UInt32) (w : World) (h : Mm w b g xs) (hy : SegW w a ws) (hf : d.st + k + ws.length ≤ xs.length) :
  Calls Tryz.prog 68 #[d.v, .pointer (some ⟨b, 0, none⟩), .int .i64 K, .slice a ws.length c] w fun e w' => e = .returned (.int .i64 0) ∧ Mm w' b g (lay xs (d.st + k) ws) ∧ Keeps (· = g) w w' := by
 obtain ⟨D, hD⟩ : ∃ D, D = w.heap.size := ⟨_, rfl⟩
 obtain ⟨W, hW⟩ : ∃ W, W = d.box w := ⟨_, rfl⟩
 have hK0 : Keeps (fun _ => False) w W := by rw [hW]; exact d.box_keeps w
 have hK : Keeps (fun _ => False) w W.drew := hK0.drew
 have q0 := (show Blk W D d.vs 149 by rw [hW, hD]; exact d.box_blk w).cell (i := 1) rfl
 have hs := h.small
 have HL : Hid (Calls _ _ _ W _) := lay_in b g xs (d.st + k) a c ws W (h.kept hK0 (fun h => h) (fun h => h)) (hy.kept hK0 fun _ _ e => e) (by omega)
 have hz : IntKind.i64.wrap ((d.st : Int) + K) = ((d.st + k : Nat) : Int) := by rw [hk, IntKind.wrap_i64]; omega
 have H3 : Hid (Keeps (fun _ => False) w W) := hK0
 obtain ⟨n, hn⟩ : ∃ n, n = ws.length := ⟨_, rfl⟩
 rw [← hn] at HL ⊢
 unfold Wrd.v
 unfold Wrd.box at hW
 clear hK hK0 hs hk h hy hf hn
 go_enter Tryz.func68, Tryz.ntmps68
 go_upto_region 1 with fail
 rw [← hW, ← hD]
 clear hW hD
 go_wp2_with fail
 refine HL.out.mono ?_
 rintro e w1 ⟨rfl, h1, h2⟩
 have H1 : Hid (Mm _ _ _ _) := h1
 have H2 : Hid (Keeps _ _ _) := h2
 clear h1 h2
 go_wp2
 go_ret
 exact ⟨rfl, H1.out, (H3.out.mono fun _ _ h => h.elim).trans H2.out fun _ _ h => h⟩
def stv (s r t q o : Int) : Value := .agg #[.int .u32 s, .int .u32 r, .int .u32 t, .int .u32 q, .int .u32 o]
set_option maxHeartbeats 1000000 in
def tov (s r t q o : Int) : Value := .agg #[.int .i64 s, .int .i64 r, .int .i64 t, .int .u32 q, .int .i64 o]
theorem results_row_tmp {P : Program} {fn : Func} {p u : Tmp} {ty : TypeId} (h : fn.results = #[.cell p ty, .tmp u]) (tmps : Array Value) (w : World) (g : Nat) (t : TypeId) (cs : Array Value) (fr : Nat × Nat) (d : TypeDesc)
  (hp : tmps.getD p undef = .pointer (some ⟨g, 0, none⟩)) (hg : w.heap[g]? = some (.cells cs t fr))
  (hu : P.underlying ty = some d) (hd : (match d with | .struct _ | .array _ _ => true | _ => false) = true) (hi : (P.info? ty).map (·.size) = some cs.size) :
  (results fn tmps).run P w = .ok (.tuple #[.agg cs, tmps.getD u undef]) w := by
 rw [results_cell_tmp h, hp]
 simp [asAddr, run_loadVar_row w g t ty cs fr d hg hu hd hi]
def z17 : List UInt32 := List.replicate 17 0
theorem Tryz.size149 : (Tryz.prog.info? 149).map (·.size) = some 7 := by kernel_rfl
end Go.Proofs.YtglhfijgnfignaaGreat
