import Derived.Test.YtofjbkoojimmhaaGreatMc
import Derived.Test.YtofjbkoojimmhaaGreatCn
import Derived.Handy
namespace Go.Proofs.YtofjbkoojimmhaaGreat
open Go.RowKit Go.Shelf
open Mq
set_option linter.unusedVariables false
set_option maxRecDepth 6000
set_option linter.unusedSimpArgs false
theorem run_copy_min {w : World} (ty : TypeId) (g o dl dc : Nat) (l : List Value) (t : TypeId) (hg : Blk w g l t) (b sl sc : Nat) (l2 : List Value) (t2 : TypeId) (hb : Blk w b l2 t2) (xs : List UInt32)
  (hx : ∀ (j : Nat) (u : Value), (wvs xs)[j]? = some u → l2[j]? = some u) (hm : xs.length = Nat.min sl dl) (hfit : o + xs.length ≤ l.length) :
  (Builtin.copy_ #[61, 61] ty #[.slice (some ⟨g, o, none⟩) dl dc, .slice (some ⟨b, 0, none⟩) sl sc]).run Tryz.prog w = .ok (goInt xs.length) (w.setRow g (l.take o ++ wvs xs ++ l.drop (o + xs.length)).toArray) := by
 have h := run_copy_row Tryz.prog w 61 61 ty 38 g o dl dc ⟨b, 0, none⟩ sl sc l.toArray t (wvs xs) Tryz.underlying61 Tryz.size38 hg (by rw [wvs_length]; exact hm) (by
   intro j v hj
   rw [addr_add, Nat.zero_add]
   exact hb.cell (hx j v hj)) (by rw [wvs_length]; simpa using hfit) (wvs_one xs)
 rw [wvs_length] at h
 exact h
structure Wrd where
 sv : Nat
 st : Nat
 en : UInt32
 rs : Int
 ou : Int
 fh : Value
 fa : Value
def Wrd.vs (d : Wrd) : List Value := [.int .i64 (d.sv : Int), .int .i64 (d.st : Int), .int .u32 (d.en.toNat : Int), .int .u32 d.rs, .int .u32 d.ou, d.fh, d.fa]
def Wrd.v (d : Wrd) : Value := .agg #[.int .i64 (d.sv : Int), .int .i64 (d.st : Int), .int .u32 (d.en.toNat : Int), .int .u32 d.rs, .int .u32 d.ou, d.fh, d.fa]
def cxv (ys : List UInt32) : Value := .agg (wvs ys).toArray
theorem save_any (d : Wrd) (b g : Nat) (xs ys : List UInt32) (w : World) (h : Mm w b g xs) (hy : ys.length = 17) (hf : d.sv + 17 ≤ xs.length) :
  Calls Tryz.prog 28 #[d.v, .pointer (some ⟨b, 0, none⟩), cxv ys] w fun e w' => e = .returned (.int .i64 0) ∧ Mm w' b g (lay xs d.sv ys) ∧ Keeps (· = g) w w' := by
 obtain ⟨D, hD⟩ : ∃ D, D = w.heap.size := ⟨_, rfl⟩
 obtain ⟨W, hW⟩ : ∃ W, W = (w.alloc (.cells #[.int .i64 (d.sv : Int), .int .i64 (d.st : Int), .int .u32 (d.en.toNat : Int), .int .u32 d.rs, .int .u32 d.ou, d.fh, d.fa] 82)).alloc (.cells (wvs ys).toArray 41) := ⟨_, rfl⟩
 have hK : Keeps (fun _ => False) w W := by rw [hW]; exact ((Keeps.refl _ w).alloc _).alloc _
 have hM : Mm W b g xs := h.kept hK (fun h => h) (fun h => h)
 have hB1 : Blk W D d.vs 82 := by rw [hW, hD]; exact (Blk.new w _ 82).alloc _
 have hB2 : Blk W (D + 1) (wvs ys) 41 := by
  have := Blk.new (w.alloc (.cells #[.int .i64 (d.sv : Int), .int .i64 (d.st : Int), .int .u32 (d.en.toNat : Int), .int .u32 d.rs, .int .u32 d.ou, d.fh, d.fa] 82)) (wvs ys).toArray 41
  rw [hW, hD]
  simpa using this
 have hS : W.heap.size = D + 2 := by rw [hW, hD]; simp
 have hmk : (Instr.makeSlice 61 (.int .i64 17) (.int .i64 17)).run Tryz.prog W = .ok (.slice (some ⟨D + 2, 0, none⟩) 17 17) (W.alloc (.cells (wvs (List.replicate 17 0)).toArray 38)) := by rw [← hS]; exact run_make_words (w := W) 17 (by omega)
 obtain ⟨W1, hW1⟩ : ∃ W1, W1 = W.alloc (.cells (wvs (List.replicate 17 0)).toArray 38) := ⟨_, rfl⟩
 rw [← hW1] at hmk
 have hK1 : Keeps (fun _ => False) w W1 := by rw [hW1]; exact hK.alloc _
 have hM1 : Mm W1 b g xs := h.kept hK1 (fun h => h) (fun h => h)
 have hA1 : Blk W1 D d.vs 82 := by rw [hW1]; exact hB1.alloc _
 have hA2 : Blk W1 (D + 1) (wvs ys) 41 := by rw [hW1]; exact hB2.alloc _
 have hA3 : Blk W1 (D + 2) (wvs (List.replicate 17 0)) 38 := by rw [hW1, ← hS]; exact Blk.new W _ 38
 have hcp := fun ty => run_copy_min (w := W1) ty (D + 2) 0 17 17 _ 38 hA3 (D + 1) 16 16 (wvs ys) 41 hA2 (ys.take 16) (by
  intro j u hu
  rw [wvs_take, List.getElem?_take] at hu
  split at hu
  ·
   exact hu
  ·
   cases hu) (by simp [hy]) (by simp [hy, wvs_length])
 obtain ⟨W2, hW2⟩ : ∃ W2, W2 = W1.setRow (D + 2) (List.take 0 (wvs (List.replicate 17 0)) ++ wvs (ys.take 16) ++ List.drop (0 + (ys.take 16).length) (wvs (List.replicate 17 0))).toArray := ⟨_, rfl⟩
 rw [← hW2] at hcp
 have hD1 : Blk W2 D d.vs 82 := by rw [hW2]; exact hA1.setRow_ne (by omega) _
 have hD2 : Blk W2 (D + 1) (wvs ys) 41 := by rw [hW2]; exact hA2.setRow_ne (by omega) _
 have hD3 : Blk W2 (D + 2) (List.take 0 (wvs (List.replicate 17 0)) ++ wvs (ys.take 16) ++ List.drop (0 + (ys.take 16).length) (wvs (List.replicate 17 0))) 38 := by rw [hW2]; exact hA3.setRow _
 have hK2 : Keeps (fun _ => False) w W2 := by rw [hW2]; exact hK1.setRow _ _ (fun h => by omega)
 have hM2 : Mm W2 b g xs := h.kept hK2 (fun h => h) (fun h => h)
 have hg : (wvs ys)[16]? = some (.int .u32 (ys[16].toNat : Int)) := wvs_get ys 16 (by omega)
 have q0 := hD1.cell (i := 0) rfl
 have q1 := hD2.cell hg
 have q2 := hD3.cell (i := 16) (v := .int .u32 0) (by
  match ys, hy with
  | [y0, y1, y2, y3, y4, y5, y6, y7, y8, y9, y10, y11, y12, y13, y14, y15, y16], _ => rfl)
 have q3 := hD3.frozen 16
 obtain ⟨W3, hW3⟩ : ∃ W3, W3 = W2.setCell ⟨D + 2, 16, none⟩ (.int .u32 (ys[16].toNat : Int)) := ⟨_, rfl⟩
 have hE3 : Blk W3 (D + 2) (wvs ys) 38 := by
  have := hD3.setCell 16 (.int .u32 (ys[16].toNat : Int))
  rw [hW3]
  refine Eq.mp (congrArg (fun l => Blk _ _ l _) ?_) this
  match ys, hy with
  | [y0, y1, y2, y3, y4, y5, y6, y7, y8, y9, y10, y11, y12, y13, y14, y15, y16], _ => rfl
 have hE1 : Blk W3 D d.vs 82 := by rw [hW3]; exact hD1.setCell_ne (show D ≠ D + 2 by omega) _
 have hK3 : Keeps (fun _ => False) w W3 := by rw [hW3]; exact hK2.setCell _ _ (fun h => absurd h (by show ¬ D + 2 < _; omega))
 have hM3 : Mm W3 b g xs := h.kept hK3 (fun h => h) (fun h => h)
 have r0 := hE1.cell (i := 0) rfl
 have HL : Hid (Calls _ _ _ W3 _) := lay_in b g xs d.sv (some ⟨D + 2, 0, none⟩) 17 ys W3 hM3 (segW_of_blk hE3) (by omega)
 rw [hy] at HL
 obtain ⟨P, hP⟩ : ∃ P, P = (ys[16].toNat : Int) := ⟨_, rfl⟩
 rw [← hP] at q1 hW3
 have HM : Hid (_ = _) := hmk
 have HC : Hid (∀ ty, _) := hcp
 have H3 : Hid (Keeps (fun _ => False) w W3) := hK3
 have hQ : W2.setCell ⟨D + 2, 16, none⟩ (.int .u32 P) = W3 := hW3.symm
 unfold Wrd.v cxv
 clear hmk hcp hK hM hB1 hB2 hS hW1 hK1 hM1 hA1 hA2 hA3 hW2 hD1 hD2 hD3 hK2 hM2 hg hE3 hE1 hK3 hM3 hP hW3 hf h
 go_enter Tryz.func28, Tryz.ntmps28
 go_upto_region 1 with fail
 rw [← hW, ← hD]
 clear hW hD
 go_wp2_with (at_make; refine wpList_make_run rfl (.const (.int .i64 17)) (.const (.int .i64 17)) 61 rfl (.int .i64 17) (.int .i64 17) (.slice (some ⟨D + 2, 0, none⟩) 17 17) W1 rfl rfl HM.out ?_; refine Hid.out ?_)
 unfold Hid
 go_wp2_with (refine isCopy (.tmp 9) (.tmp 11) 61 61 rfl ?_; go_must (refine wpList_copy_run rfl (.tmp 9) (.tmp 11) 61 61 rfl (.slice (some ⟨D + 2, 0, none⟩) 17 17) (.slice (some ⟨D + 1, 0, none⟩) 16 16) (goInt (ys.take 16).length) W2 rfl rfl HC.out ?_); refine Hid.out ?_)
 unfold Hid
 go_upto_region 4 with fail
 clear hQ q0 q1 q2 q3
 go_wp2_with fail
 refine HL.out.mono ?_
 rintro e w1 ⟨rfl, h1, h2⟩
 have H1 : Hid (Mm _ _ _ _) := h1
 have H2 : Hid (Keeps _ _ _) := h2
 clear h1 h2
 go_wp2
 go_ret
 exact ⟨rfl, H1.out, (H3.out.mono fun _ _ h => h.elim).trans H2.out fun _ _ h => h⟩
def Wrd.box (d : Wrd) (w : World) : World := w.alloc (.cells #[.int .i64 (d.sv : Int), .int .i64 (d.st : Int), .int .u32 (d.en.toNat : Int), .int .u32 d.rs, .int .u32 d.ou, d.fh, d.fa] 82)
theorem Wrd.box_keeps (d : Wrd) (w : World) : Keeps (fun _ => False) w (d.box w) := (Keeps.refl _ w).alloc _
theorem Wrd.box_blk (d : Wrd) (w : World) : Blk (d.box w) w.heap.size d.vs 82 := Blk.new w _ 82
theorem write_any (d : Wrd) (b g : Nat) (xs : List UInt32) (K : Int) (k : Nat) (hk : K = k) (a : Option Addr) (c : Nat) (ws : List UInt32) (w : World) (h : Mm w b g xs) (hy : SegW w a ws) (hf : d.st + k + ws.length ≤ xs.length) :
  Calls Tryz.prog 24 #[d.v, .pointer (some ⟨b, 0, none⟩), .int .i64 K, .slice a ws.length c] w fun e w' => e = .returned (.int .i64 0) ∧ Mm w' b g (lay xs (d.st + k) ws) ∧ Keeps (· = g) w w' := by
 obtain ⟨D, hD⟩ : ∃ D, D = w.heap.size := ⟨_, rfl⟩
 obtain ⟨W, hW⟩ : ∃ W, W = d.box w := ⟨_, rfl⟩
 have hK0 : Keeps (fun _ => False) w W := by rw [hW]; exact d.box_keeps w
 have hK : Keeps (fun _ => False) w W.drew := hK0.drew
 have q0 := (show Blk W D d.vs 82 by rw [hW, hD]; exact d.box_blk w).cell (i := 1) rfl
 have hs := h.small
 have HL : Hid (Calls _ _ _ W _) := lay_in b g xs (d.st + k) a c ws W (h.kept hK0 (fun h => h) (fun h => h)) (hy.kept hK0 fun _ _ e => e) (by omega)
 have hz : IntKind.i64.wrap ((d.st : Int) + K) = ((d.st + k : Nat) : Int) := by rw [hk, IntKind.wrap_i64]; omega
 have H3 : Hid (Keeps (fun _ => False) w W) := hK0
 obtain ⟨n, hn⟩ : ∃ n, n = ws.length := ⟨_, rfl⟩
 rw [← hn] at HL ⊢
 unfold Wrd.v
 unfold Wrd.box at hW
 clear hK hK0 hs hk h hy hf hn
 go_enter Tryz.func24, Tryz.ntmps24
 go_upto_region 1 with fail
 rw [← hW, ← hD]
 clear hW hD
 go_wp2_with fail
 refine HL.out.mono ?_
 rintro e w1 ⟨rfl, h1, h2⟩
 have H1 : Hid (Mm _ _ _ _) := h1
 have H2 : Hid (Keeps _ _ _) := h2
 clear h1 h2
 go_wp2
 go_ret
 exact ⟨rfl, H1.out, (H3.out.mono fun _ _ h => h.elim).trans H2.out fun _ _ h => h⟩
theorem read_any (d : Wrd) (b g : Nat) (xs : List UInt32) (s0 s1 s2 s3 s4 : UInt32) (w : World) (h : Mm w b g xs) (hf : d.st + 5 ≤ xs.length) (hs : (xs.drop d.st).take 5 = [s0, s1, s2, s3, s4]) :
  Calls Tryz.prog 38 #[d.v, .pointer (some ⟨b, 0, none⟩)] w fun e w' => e = .returned (.tuple #[.agg #[.int .u32 (s0.toNat : Int), .int .u32 (s1.toNat : Int), .int .u32 (s2.toNat : Int), .int .u32 (s3.toNat : Int), .int .u32 (s4.toNat : Int)], .int .i64 0]) ∧ Keeps (fun _ => False) w w' := by
 obtain ⟨ss, hss⟩ : ∃ ss, ss = [s0, s1, s2, s3, s4] := ⟨_, rfl⟩
 rw [← hss] at hs
 obtain ⟨D, hD⟩ : ∃ D, D = w.heap.size := ⟨_, rfl⟩
 obtain ⟨W, hW⟩ : ∃ W, W = (d.box w).alloc (.cells #[.int .u32 0, .int .u32 0, .int .u32 0, .int .u32 0, .int .u32 0] 84) := ⟨_, rfl⟩
 have hK0 : Keeps (fun _ => False) w W := by rw [hW]; exact (d.box_keeps w).alloc _
 have q0 := (show Blk W D d.vs 82 by rw [hW, hD]; exact (d.box_blk w).alloc _).cell (i := 1) rfl
 have hsl : ss.length = 5 := by rw [← hs]; simp; omega
 have HT : Hid (Calls _ _ _ W _) := take_in b g xs d.st 5 W (h.kept hK0 (fun h => h) (fun h => h)) hf
 rw [hs] at HT
 have H3 : Hid (Keeps (fun _ => False) w W) := hK0
 have hB4 : Blk W (D + 1) [.int .u32 0, .int .u32 0, .int .u32 0, .int .u32 0, .int .u32 0] 84 := by
  have := Blk.new (d.box w) #[.int .u32 0, .int .u32 0, .int .u32 0, .int .u32 0, .int .u32 0] 84
  rw [hW, hD]
  unfold Wrd.box at this ⊢
  simpa using this
 have HD : Hid (w.heap.size = D) := hD.symm
 have hSz : W.heap.size = D + 2 := by rw [hW, hD]; unfold Wrd.box; simp
 have HB : Hid (Blk W (D + 1) [.int .u32 0, .int .u32 0, .int .u32 0, .int .u32 0, .int .u32 0] 84 ∧ W.heap.size = D + 2) := ⟨hB4, hSz⟩
 unfold Wrd.v
 unfold Wrd.box at hW
 clear hK0 h hf hs hB4
 go_enter Tryz.func38, Tryz.ntmps38
 go_upto_region 1 with fail
 rw [← hW, ← hD]
 clear hW hD
 go_wp2_with fail
 refine HT.out.mono ?_
 rintro e w1 ⟨rfl, h1, h2⟩
 rw [hSz] at h1 ⊢
 clear hSz
 obtain ⟨W1, hW1⟩ : ∃ W1, W1 = w1.alloc (.cells #[.int .u32 0, .int .u32 0, .int .u32 0, .int .u32 0, .int .u32 0] 84) := ⟨_, rfl⟩
 obtain ⟨N, hN⟩ : ∃ N, N = w1.heap.size := ⟨_, rfl⟩
 have hNg : D + 2 < N := by rw [hN]; exact h1.lt
 have hK1 : Keeps (fun _ => False) W W1 := by rw [hW1]; exact h2.alloc _
 have hA1 : Blk W1 N [.int .u32 0, .int .u32 0, .int .u32 0, .int .u32 0, .int .u32 0] 84 := by rw [hW1, hN]; exact Blk.new w1 _ 84
 have hA2 : Blk W1 (D + 2) (wvs ss) 38 := by rw [hW1]; exact h1.alloc _
 have hA3 : Blk W1 (D + 1) [.int .u32 0, .int .u32 0, .int .u32 0, .int .u32 0, .int .u32 0] 84 := HB.out.1.kept hK1 fun h => h
 have hcp := fun ty => run_copy_min (w := W1) ty N 0 5 5 _ 84 hA1 (D + 2) 5 5 (wvs ss) 38 hA2 ss (fun _ _ h => h) (by rw [hsl]; rfl) (by simp [hsl])
 have e : List.take 0 [Value.int .u32 0, .int .u32 0, .int .u32 0, .int .u32 0, .int .u32 0] ++ wvs ss ++ List.drop (0 + ss.length) [Value.int .u32 0, .int .u32 0, .int .u32 0, .int .u32 0, .int .u32 0] = wvs ss := by rw [hsl]; simp
 rw [e] at hcp
 obtain ⟨W2, hW2⟩ : ∃ W2, W2 = W1.setRow N (wvs ss).toArray := ⟨_, rfl⟩
 rw [← hW2] at hcp
 have hD1 : Blk W2 N (wvs ss) 84 := by rw [hW2]; exact hA1.setRow _
 have hD3 : Blk W2 (D + 1) [.int .u32 0, .int .u32 0, .int .u32 0, .int .u32 0, .int .u32 0] 84 := by rw [hW2]; exact hA3.setRow_ne (by omega) _
 have hK2 : Keeps (fun _ => False) w W2 := by rw [hW2]; exact ((H3.out.trans hK1 fun _ _ h => h).setRow _ _ fun h => by have := H3.out.size; have := HB.out.2; have := h1.lt; omega)
 have HC : Hid (∀ ty, _) := hcp
 have e5 : wvs ss = [.int .u32 (s0.toNat : Int), .int .u32 (s1.toNat : Int), .int .u32 (s2.toNat : Int), .int .u32 (s3.toNat : Int), .int .u32 (s4.toNat : Int)] := by rw [hss]; rfl
 rw [e5] at hD1
 have HK2 : Hid (Keeps (fun _ => False) w W2 ∧ w.heap.size ≤ D + 1) := ⟨hK2, by have := HD.out; omega⟩
 have n0 := hD1.cell (i := 0) rfl
 have n1 := hD1.cell (i := 1) rfl
 have n2 := hD1.cell (i := 2) rfl
 have n3 := hD1.cell (i := 3) rfl
 have n4 := hD1.cell (i := 4) rfl
 have k0 := hD3.cell (i := 0) rfl
 have k1 := hD3.cell (i := 1) rfl
 have k2 := hD3.cell (i := 2) rfl
 have k3 := hD3.cell (i := 3) rfl
 have k4 := hD3.cell (i := 4) rfl
 have f0 := hD3.frozen 0
 have f1 := hD3.frozen 1
 have f2 := hD3.frozen 2
 have f3 := hD3.frozen 3
 have f4 := hD3.frozen 4
 obtain ⟨W3, hQ⟩ : ∃ W3, ((((W2.setCell ⟨D + 1, 0, none⟩ (.int .u32 (s0.toNat : Int))).setCell ⟨D + 1, 1, none⟩ (.int .u32 (s1.toNat : Int))).setCell ⟨D + 1, 2, none⟩ (.int .u32 (s2.toNat : Int))).setCell ⟨D + 1, 3, none⟩ (.int .u32 (s3.toNat : Int))).setCell ⟨D + 1, 4, none⟩ (.int .u32 (s4.toNat : Int)) = W3 := ⟨_, rfl⟩
 have hZ : Blk W3 (D + 1) [.int .u32 (s0.toNat : Int), .int .u32 (s1.toNat : Int), .int .u32 (s2.toNat : Int), .int .u32 (s3.toNat : Int), .int .u32 (s4.toNat : Int)] 84 := by rw [← hQ]; exact ((((hD3.setCell 0 _).setCell 1 _).setCell 2 _).setCell 3 _).setCell 4 _
 have HZ : Hid (Keeps (fun _ => False) w W3) := by
  have hn : ∀ i, (⟨D + 1, i, none⟩ : Addr).block < w.heap.size → False := fun i (h : D + 1 < w.heap.size) => by have := HD.out; omega
  show Keeps _ _ _
  rw [← hQ]
  exact ((((hK2.setCell _ _ (hn 0)).setCell _ _ (hn 1)).setCell _ _ (hn 2)).setCell _ _ (hn 3)).setCell _ _ (hn 4)
 have z0 := hZ.cell (i := 0) rfl
 have z1 := hZ.cell (i := 1) rfl
 have z2 := hZ.cell (i := 2) rfl
 have z3 := hZ.cell (i := 3) rfl
 have z4 := hZ.cell (i := 4) rfl
 clear hZ
 clear hcp h1 h2 HT q0 e hW2 hss e5 hA1 hA2 hA3 hD1 hD3 hK2 hK1 hNg
 go_upto_region 5 with fail
 rw [← hW1, ← hN]
 clear hW1 hN
 go_wp2_with (refine isCopy (.tmp 20) (.tmp 21) 61 61 rfl ?_; go_must (refine wpList_copy_run rfl (.tmp 20) (.tmp 21) 61 61 rfl (.slice (some ⟨N, 0, none⟩) 5 5) (.slice (some ⟨D + 2, 0, none⟩) 5 5) (goInt ss.length) W2 rfl rfl HC.out ?_); refine Hid.out ?_)
 unfold Hid
 go_wp2
 refine bodyPost_ret (by simp [results, Tryz.results38, go_sem, z0, z1, z2, z3, z4]; try rfl) rfl ?_
 exact ⟨rfl, HZ.out⟩
theorem care_a (r m : Int) (w : World) : Calls Tryz.prog 92 #[.int .u32 r, .int .u32 m] w fun e w' => e = .returned (.bool true) ∧ w' = w := by
 go_enter Tryz.func92, Tryz.ntmps92
 go_wp2
 go_ret
 exact ⟨rfl, rfl⟩
theorem care_b (r m : Int) (w : World) : Calls Tryz.prog 94 #[.int .u32 r, .int .u32 m] w fun e w' => e = .returned (.bool (decide (m ≤ r))) ∧ w' = w := by
 go_enter Tryz.func94, Tryz.ntmps94
 go_wp2
 go_ret
 exact ⟨rfl, rfl⟩
def stv (s r t q o : Int) : Value := .agg #[.int .u32 s, .int .u32 r, .int .u32 t, .int .u32 q, .int .u32 o]
set_option maxHeartbeats 1000000 in
theorem right_a (d : Wrd) (s r t q o : Int) (w : World) (h0 : ¬ s = 2) (h1 : s ≤ 3) (h2 : r ≤ d.rs) (h3 : t ≤ 6) (h4 : t = 0 → q = 0) (h5 : o ≤ d.ou) :
  Calls Tryz.prog 39 #[d.v, stv s r t q o] w fun e w' => e = .returned (.bool true) ∧ Keeps (fun _ => False) w w' := by
 have g0 : (s == 2) = false := by simpa using h0
 unfold Wrd.v stv
 by_cases ht : t = 0
 ·
  have e := h4 ht
  subst ht
  subst e
  clear h4 h0
  go_enter Tryz.func39, Tryz.ntmps39
  go_wp2
  go_ret
  exact ⟨rfl, ((Keeps.refl _ w).alloc _).alloc _⟩
 ·
  have g1 : (t != 0) = true := by simpa using ht
  clear h4 h0
  go_enter Tryz.func39, Tryz.ntmps39
  go_wp2
  go_ret
  exact ⟨rfl, ((Keeps.refl _ w).alloc _).alloc _⟩
set_option maxHeartbeats 1000000 in
theorem right_b (d : Wrd) (r t q o : Int) (w : World) (hd : d.fh = .func (.func 94) #[] #[]) (h0 : r < d.rs) (h3 : t ≤ 6) (h4 : t = 0 → q = 0) (h5 : o ≤ d.ou) :
  Calls Tryz.prog 39 #[d.v, stv 2 r t q o] w fun e w' => e = .returned (.bool true) ∧ Keeps (fun _ => False) w w' := by
 have HC : Hid (∀ w, Calls Tryz.prog 94 #[.int .u32 r, .int .u32 d.rs] w fun e w' => e = .returned (.bool false) ∧ w' = w) := by
  intro w
  have := care_b r d.rs w
  rwa [show decide (d.rs ≤ r) = false by simpa using h0] at this
 have h2 : r ≤ d.rs := by omega
 unfold Wrd.v stv
 rw [hd]
 by_cases ht : t = 0
 ·
  have e := h4 ht
  subst ht
  subst e
  clear h4 hd
  go_enter Tryz.func39, Tryz.ntmps39
  go_wp2_with fail
  refine (HC.out _).mono ?_
  rintro e w1 ⟨rfl, rfl⟩
  go_wp2
  go_ret
  exact ⟨rfl, ((Keeps.refl _ w).alloc _).alloc _⟩
 ·
  have g1 : (t != 0) = true := by simpa using ht
  clear h4 hd
  go_enter Tryz.func39, Tryz.ntmps39
  go_wp2_with fail
  refine (HC.out _).mono ?_
  rintro e w1 ⟨rfl, rfl⟩
  go_wp2
  go_ret
  exact ⟨rfl, ((Keeps.refl _ w).alloc _).alloc _⟩
def tov (s r t q o : Int) : Value := .agg #[.int .i64 s, .int .i64 r, .int .i64 t, .int .u32 q, .int .i64 o]
theorem status_any (s r t q o : UInt32) (w : World) :
  Calls Tryz.prog 22 #[stv s.toNat r.toNat t.toNat q.toNat o.toNat] w fun e w' => e = .returned (tov s.toNat r.toNat t.toNat q.toNat o.toNat) ∧ Keeps (fun _ => False) w w' := by
 have b0 := s.toNat_lt
 have b1 := r.toNat_lt
 have b2 := t.toNat_lt
 have b4 := o.toNat_lt
 unfold stv tov
 go_enter Tryz.func22, Tryz.ntmps22
 go_wp2
 go_returns
 exact ⟨rfl, ((Keeps.refl _ w).alloc _).alloc _⟩
theorem results_row_tmp {P : Program} {fn : Func} {p u : Tmp} {ty : TypeId} (h : fn.results = #[.cell p ty, .tmp u]) (tmps : Array Value) (w : World) (g : Nat) (t : TypeId) (cs : Array Value) (fr : Nat × Nat) (d : TypeDesc)
  (hp : tmps.getD p undef = .pointer (some ⟨g, 0, none⟩)) (hg : w.heap[g]? = some (.cells cs t fr))
  (hu : P.underlying ty = some d) (hd : (match d with | .struct _ | .array _ _ => true | _ => false) = true) (hi : (P.info? ty).map (·.size) = some cs.size) :
  (results fn tmps).run P w = .ok (.tuple #[.agg cs, tmps.getD u undef]) w := by
 rw [results_cell_tmp h, hp]
 simp [asAddr, run_loadVar_row w g t ty cs fr d hg hu hd hi]
theorem results_row_tmp2 {P : Program} {fn : Func} {p u v : Tmp} {ty : TypeId} (h : fn.results = #[.cell p ty, .tmp u, .tmp v]) (tmps : Array Value) (w : World) (g : Nat) (t : TypeId) (cs : Array Value) (fr : Nat × Nat) (d : TypeDesc)
  (hp : tmps.getD p undef = .pointer (some ⟨g, 0, none⟩)) (hg : w.heap[g]? = some (.cells cs t fr))
  (hu : P.underlying ty = some d) (hd : (match d with | .struct _ | .array _ _ => true | _ => false) = true) (hi : (P.info? ty).map (·.size) = some cs.size) :
  (results fn tmps).run P w = .ok (.tuple #[.agg cs, tmps.getD u undef, tmps.getD v undef]) w := by
 have hp' : tmps[p]?.getD undef = .pointer (some ⟨g, 0, none⟩) := by simpa using hp
 simp [results, h, hp', asAddr, run_loadVar_row w g t ty cs fr d hg hu hd hi]
def z17 : List UInt32 := List.replicate 17 0
theorem wvs_all (ws : List UInt32) : (wvs ws).toArray.all (·.oneCell') = true := by
 rw [Array.all_eq_true']
 intro v hv
 exact wvs_one ws v (by simpa using hv)
theorem Tryz.size41 : (Tryz.prog.info? 41).map (·.size) = some 17 := by kernel_rfl
theorem Tryz.size82 : (Tryz.prog.info? 82).map (·.size) = some 7 := by kernel_rfl
theorem Tryz.size84 : (Tryz.prog.info? 84).map (·.size) = some 5 := by kernel_rfl
set_option maxHeartbeats 1000000 in
theorem saved_any (d : Wrd) (b g : Nat) (xs ys : List UInt32) (w : World) (h : Mm w b g xs) (hf : d.sv + 17 ≤ xs.length) (hs : (xs.drop d.sv).take 17 = ys) :
  Calls Tryz.prog 26 #[d.v, .pointer (some ⟨b, 0, none⟩)] w fun e w' => e = .returned (.tuple #[cxv ys, .int .i64 0]) ∧ Keeps (fun _ => False) w w' := by
 obtain ⟨D, hD⟩ : ∃ D, D = w.heap.size := ⟨_, rfl⟩
 obtain ⟨W, hW⟩ : ∃ W, W = (d.box w).alloc (.cells #[.int .u32 0, .int .u32 0, .int .u32 0, .int .u32 0, .int .u32 0, .int .u32 0, .int .u32 0, .int .u32 0, .int .u32 0, .int .u32 0, .int .u32 0, .int .u32 0, .int .u32 0, .int .u32 0, .int .u32 0, .int .u32 0, .int .u32 0] 41) := ⟨_, rfl⟩
 have hK0 : Keeps (fun _ => False) w W := by rw [hW]; exact (d.box_keeps w).alloc _
 have q0 := (show Blk W D d.vs 82 by rw [hW, hD]; exact (d.box_blk w).alloc _).cell (i := 0) rfl
 have hsl : ys.length = 17 := by rw [← hs]; simp; omega
 have HT : Hid (Calls _ _ _ W _) := take_in b g xs d.sv 17 W (h.kept hK0 (fun h => h) (fun h => h)) hf
 rw [hs] at HT
 have hSz : W.heap.size = D + 2 := by rw [hW, hD]; unfold Wrd.box; simp
 have hB4 : Blk W (D + 1) (wvs z17) 41 := by
  have := Blk.new (d.box w) #[.int .u32 0, .int .u32 0, .int .u32 0, .int .u32 0, .int .u32 0, .int .u32 0, .int .u32 0, .int .u32 0, .int .u32 0, .int .u32 0, .int .u32 0, .int .u32 0, .int .u32 0, .int .u32 0, .int .u32 0, .int .u32 0, .int .u32 0] 41
  rw [hW, hD]
  have e : (d.box w).heap.size = w.heap.size + 1 := by unfold Wrd.box; simp
  rw [e] at this
  exact this
 have HB : Hid (Keeps (fun _ => False) w W ∧ Blk W (D + 1) (wvs z17) 41 ∧ W.heap.size = D + 2 ∧ w.heap.size = D) := ⟨hK0, hB4, hSz, hD.symm⟩
 unfold Wrd.v
 unfold Wrd.box at hW
 clear hK0 h hf hs hB4
 go_enter Tryz.func26, Tryz.ntmps26
 go_upto_region 1 with fail
 rw [← hW, ← hD]
 clear hW hD
 go_wp2_with fail
 refine HT.out.mono ?_
 rintro e w1 ⟨rfl, h1, h2⟩
 rw [hSz] at h1 ⊢
 clear hSz
 have hg : (wvs ys)[16]? = some (.int .u32 (ys[16].toNat : Int)) := wvs_get ys 16 (by omega)
 obtain ⟨P, hP⟩ : ∃ P, P = (ys[16].toNat : Int) := ⟨_, rfl⟩
 rw [← hP] at hg
 have q1 := h1.cell hg
 obtain ⟨W1, hW1⟩ : ∃ W1, W1 = w1.alloc (.cells #[.int .u32 0, .int .u32 0, .int .u32 0, .int .u32 0, .int .u32 0, .int .u32 0, .int .u32 0, .int .u32 0, .int .u32 0, .int .u32 0, .int .u32 0, .int .u32 0, .int .u32 0, .int .u32 0, .int .u32 0, .int .u32 0, .int .u32 P] 41) := ⟨_, rfl⟩
 obtain ⟨N, hN⟩ : ∃ N, N = w1.heap.size := ⟨_, rfl⟩
 have hNg : D + 2 < N := by rw [hN]; exact h1.lt
 have hK1 : Keeps (fun _ => False) W W1 := by rw [hW1]; exact h2.alloc _
 have hA1 : Blk W1 N (wvs (List.replicate 16 0) ++ [.int .u32 P]) 41 := by rw [hW1, hN]; exact Blk.new w1 _ 41
 have hA2 : Blk W1 (D + 2) (wvs ys) 38 := by rw [hW1]; exact h1.alloc _
 have hA3 : Blk W1 (D + 1) (wvs z17) 41 := HB.out.2.1.kept hK1 fun h => h
 have hcp := fun ty => run_copy_min (w := W1) ty N 0 16 16 _ 41 hA1 (D + 2) 17 17 (wvs ys) 38 hA2 (ys.take 16) (by
  intro j u hu
  rw [wvs_take, List.getElem?_take] at hu
  split at hu
  ·
   exact hu
  ·
   cases hu) (by simp [hsl]) (by simp [hsl, wvs_length])
 have e : List.take 0 (wvs (List.replicate 16 0) ++ [.int .u32 P]) ++ wvs (ys.take 16) ++ List.drop (0 + (ys.take 16).length) (wvs (List.replicate 16 0) ++ [.int .u32 P]) = wvs ys := by
  rw [hP]
  match ys, hsl with
  | [y0, y1, y2, y3, y4, y5, y6, y7, y8, y9, y10, y11, y12, y13, y14, y15, y16], _ => rfl
 rw [e] at hcp
 obtain ⟨W2, hW2⟩ : ∃ W2, W2 = W1.setRow N (wvs ys).toArray := ⟨_, rfl⟩
 rw [← hW2] at hcp
 have hD1 : Blk W2 N (wvs ys) 41 := by rw [hW2]; exact hA1.setRow _
 have hD3 : Blk W2 (D + 1) (wvs z17) 41 := by rw [hW2]; exact hA3.setRow_ne (by omega) _
 have hK2 : Keeps (fun _ => False) w W2 := by rw [hW2]; exact ((HB.out.1.trans hK1 fun _ _ h => h).setRow _ _ fun h => by have := HB.out.2.2.2; omega)
 have HC : Hid (∀ ty, _) := hcp
 obtain ⟨W3, hW3⟩ : ∃ W3, W3 = W2.setRow (D + 1) (wvs ys).toArray := ⟨_, rfl⟩
 have HZ : Hid (Blk W3 (D + 1) (wvs ys) 41 ∧ Keeps (fun _ => False) w W3) := by
  refine ⟨by rw [hW3]; exact hD3.setRow _, ?_⟩
  rw [hW3]; exact hK2.setRow _ _ fun h => by have := HB.out.2.2.2; omega
 have HD : Hid (Blk W2 N (wvs ys) 41 ∧ Blk W2 (D + 1) (wvs z17) 41 ∧ W3 = W2.setRow (D + 1) (wvs ys).toArray ∧ (wvs ys).toArray.size = 17) := ⟨hD1, hD3, hW3, by simp [wvs_length, hsl]⟩
 clear hcp h1 h2 HT q0 e hW2 hP hg hA1 hA2 hA3 hD1 hD3 hK2 hK1 hNg hW3
 go_upto_region 5 with fail
 rw [← hW1, ← hN]
 clear hW1 hN q1
 go_wp2_with (refine isCopy (.tmp 25) (.tmp 26) 61 61 rfl ?_; go_must (refine wpList_copy_run rfl (.tmp 25) (.tmp 26) 61 61 rfl (.slice (some ⟨N, 0, none⟩) 16 16) (.slice (some ⟨D + 2, 0, none⟩) 17 17) (goInt (ys.take 16).length) W2 rfl rfl HC.out ?_); refine Hid.out ?_)
 unfold Hid
 go_upto_region 6 with fail
 go_wp2_with (refine wpList_load_row rfl 41 (.tmp 8) rfl N rfl 41 (wvs ys).toArray (0, 0) _ HD.out.1 Tryz.underlying41 rfl (by rw [HD.out.2.2.2]; exact Tryz.size41) ?_; refine Hid.out ?_)
 unfold Hid
 refine wpList_store_row rfl 41 (.tmp 4) (.tmp 28) rfl (D + 1) (wvs ys).toArray rfl rfl 41 (wvs z17).toArray HD.out.2.1 (by rw [HD.out.2.2.2]; exact Tryz.size41) (by rw [HD.out.2.2.2]; rfl) (wvs_all ys) ?_
 rw [← HD.out.2.2.1]
 go_wp2
 refine bodyPost_ret (results_row_tmp rfl _ _ (D + 1) 41 (wvs ys).toArray (0, 0) _ rfl HZ.out.1 Tryz.underlying41 rfl (by rw [HD.out.2.2.2]; exact Tryz.size41)) rfl ?_
 exact ⟨rfl, HZ.out.2⟩
end Go.Proofs.YtofjbkoojimmhaaGreat
