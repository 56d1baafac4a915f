import Derived.Test.YtohojpacijnnaaaDoorLaws
namespace Go.Proofs.YtohojpacijnnaaaDoor.Is
open Go.RowKit
set_option linter.unusedVariables false

set_option maxHeartbeats 1000000 in
theorem read_none (x : Nat) (hx : x < 4294967296) (w : World) (h : Tabs w) (k : Nat) (hk : formOf ((x : Int) / 67108864) = (k : Int)) (hk8 : k < 8) (HA : hasA k = false) (HB : hasB k = false) (HC : hasC k = false) (HI : hasI k = false) :
    Calls Tryd.prog 34 #[.int .u32 x] w fun e w' => e = .returned (insV ((x : Int) / 67108864) 0 0 0 0) ∧ Below w.heap.size w w' := by
  unfold insV
  go_enter Tryd.func34, Tryd.ntmps34
  go_wp2_with fail
  refine (form_any _ _ (boxed2 (cs := [_, _, _, _, _]) (ds := [_, _, _, _, _]) h rfl).1).mono ?_
  rintro e w1 ⟨rfl, hw⟩
  rw [hk]
  have ht := (boxed2 (cs := [_, _, _, _, _]) (ds := [_, _, _, _, _]) h hw).1
  have s0 := ht.shape k 0 hk8 (by omega)
  have s1 := ht.shape k 1 hk8 (by omega)
  have s2 := ht.shape k 2 hk8 (by omega)
  have s3 := ht.shape k 3 hk8 (by omega)
  simp only [shapeAt, HA, HB, HC, HI, List.getElem?_cons_zero, List.getElem?_cons_succ, Nat.add_zero] at s0 s1 s2 s3
  have HR0 := RdS.begin (ss := [.bool false, .bool false, .bool false, .bool false]) h hw rfl
  obtain ⟨g1, hg1⟩ : ∃ g1, g1 = w.heap.size + 1 := ⟨_, rfl⟩
  obtain ⟨g0, hg0⟩ : ∃ g0, g0 = w.heap.size := ⟨_, rfl⟩
  rw [← hg1, ← hg0] at HR0
  rw [← hg1, ← hg0]
  have HR : Hid (RdS _ _ _ _ _ _ _) := HR0
  have HK := hx
  clear hw ht h hk HA HB HC HI HR0 hg1 hg0
  go_wp2_with (refine wpList_load_row rfl 40 (.tmp 3) rfl g1 rfl 40 _ (0, 0) _ HR.out.i Tryd.underlying40 rfl (by kernel_rfl) ?_; refine Hid.out ?_)
  unfold Hid
  have HQ := HR.out
  refine wpList_store_row rfl rfl 40 (.tmp 2) (.tmp 38) rfl g0 rfl _ rfl _ 40 HQ.r (by kernel_rfl) rfl rfl w.heap.size HQ.lo0 ?_
  intro W3 hB hK hs
  have HF : Hid (Below w.heap.size w W3) := HQ.bel.trans hK
  have HB : Hid (Blk _ _ _ _) := hB
  clear HQ hB hK hs HR
  go_wp2
  refine bodyPost_ret (results_cell_row rfl _ _ g0 40 _ (0, 0) _ rfl HB.out Tryd.underlying40 rfl (by kernel_rfl)) rfl ?_
  exact ⟨rfl, HF.out⟩

set_option maxHeartbeats 1000000 in
theorem read_a (x : Nat) (hx : x < 4294967296) (w : World) (h : Tabs w) (k : Nat) (hk : formOf ((x : Int) / 67108864) = (k : Int)) (hk8 : k < 8) (HA : hasA k = true) (HB : hasB k = false) (HC : hasC k = false) (HI : hasI k = false) :
    Calls Tryd.prog 34 #[.int .u32 x] w fun e w' => e = .returned (insV ((x : Int) / 67108864) ((x : Int) / 4194304 % 16) 0 0 0) ∧ Below w.heap.size w w' := by
  unfold insV
  go_enter Tryd.func34, Tryd.ntmps34
  go_wp2_with fail
  refine (form_any _ _ (boxed2 (cs := [_, _, _, _, _]) (ds := [_, _, _, _, _]) h rfl).1).mono ?_
  rintro e w1 ⟨rfl, hw⟩
  rw [hk]
  have ht := (boxed2 (cs := [_, _, _, _, _]) (ds := [_, _, _, _, _]) h hw).1
  have s0 := ht.shape k 0 hk8 (by omega)
  have s1 := ht.shape k 1 hk8 (by omega)
  have s2 := ht.shape k 2 hk8 (by omega)
  have s3 := ht.shape k 3 hk8 (by omega)
  simp only [shapeAt, HA, HB, HC, HI, List.getElem?_cons_zero, List.getElem?_cons_succ, Nat.add_zero] at s0 s1 s2 s3
  have HR0 := RdS.begin (ss := [.bool true, .bool false, .bool false, .bool false]) h hw rfl
  obtain ⟨g1, hg1⟩ : ∃ g1, g1 = w.heap.size + 1 := ⟨_, rfl⟩
  obtain ⟨g0, hg0⟩ : ∃ g0, g0 = w.heap.size := ⟨_, rfl⟩
  rw [← hg1, ← hg0] at HR0
  rw [← hg1, ← hg0]
  have HR : Hid (RdS _ _ _ _ _ _ _) := HR0
  have HK := hx
  clear hw ht h hk HA HB HC HI HR0 hg1 hg0
  go_wp2_with fail
  refine (reg22 x _ hx).mono ?_
  rintro e w2 ⟨rfl, hw2⟩
  rw [← hw2] at HR
  obtain ⟨g2, hg2⟩ : ∃ g2, g2 = w1.heap.size := ⟨_, rfl⟩
  rw [← hg2] at HR
  rw [← hg2]
  clear s0 s1 s2 s3 hg2 hw2
  have HQ := HR.out
  clear HR
  have HR : Hid (RdS _ _ _ _ _ _ _) := HQ
  have c0 := HQ.i.cell 0 rfl
  have c1 := HQ.i.cell 1 rfl
  have c2 := HQ.i.cell 2 rfl
  have c3 := HQ.i.cell 3 rfl
  have c4 := HQ.i.cell 4 rfl
  have s0 := HQ.h.cell 0 rfl
  have s1 := HQ.h.cell 1 rfl
  have s2 := HQ.h.cell 2 rfl
  have s3 := HQ.h.cell 3 rfl
  have f1 := HQ.i.frozen 1
  have f2 := HQ.i.frozen 2
  have f3 := HQ.i.frozen 3
  have f4 := HQ.i.frozen 4
  have n1 := HQ.d12
  have n2 := HQ.d12.symm
  clear HQ
  go_wp2_with (refine wpList_load_row rfl 40 (.tmp 3) rfl g1 rfl 40 _ (0, 0) _ (HR.out.store 1 (.int .i64 ((x : Int) / 4194304 % 16))).i Tryd.underlying40 rfl (by kernel_rfl) ?_; refine Hid.out ?_)
  unfold Hid
  have HQ := HR.out.store 1 (.int .i64 ((x : Int) / 4194304 % 16))
  refine wpList_store_row rfl rfl 40 (.tmp 2) (.tmp 38) rfl g0 rfl _ rfl _ 40 HQ.r (by kernel_rfl) rfl rfl w.heap.size HQ.lo0 ?_
  intro W3 hB hK hs
  have HF : Hid (Below w.heap.size w W3) := HQ.bel.trans hK
  have HB : Hid (Blk _ _ _ _) := hB
  clear HQ hB hK hs HR
  go_wp2
  refine bodyPost_ret (results_cell_row rfl _ _ g0 40 _ (0, 0) _ rfl HB.out Tryd.underlying40 rfl (by kernel_rfl)) rfl ?_
  exact ⟨rfl, HF.out⟩

set_option maxHeartbeats 1000000 in
theorem read_ab (x : Nat) (hx : x < 4294967296) (w : World) (h : Tabs w) (k : Nat) (hk : formOf ((x : Int) / 67108864) = (k : Int)) (hk8 : k < 8) (HA : hasA k = true) (HB : hasB k = true) (HC : hasC k = false) (HI : hasI k = false) :
    Calls Tryd.prog 34 #[.int .u32 x] w fun e w' => e = .returned (insV ((x : Int) / 67108864) ((x : Int) / 4194304 % 16) ((x : Int) / 262144 % 16) 0 0) ∧ Below w.heap.size w w' := by
  unfold insV
  go_enter Tryd.func34, Tryd.ntmps34
  go_wp2_with fail
  refine (form_any _ _ (boxed2 (cs := [_, _, _, _, _]) (ds := [_, _, _, _, _]) h rfl).1).mono ?_
  rintro e w1 ⟨rfl, hw⟩
  rw [hk]
  have ht := (boxed2 (cs := [_, _, _, _, _]) (ds := [_, _, _, _, _]) h hw).1
  have s0 := ht.shape k 0 hk8 (by omega)
  have s1 := ht.shape k 1 hk8 (by omega)
  have s2 := ht.shape k 2 hk8 (by omega)
  have s3 := ht.shape k 3 hk8 (by omega)
  simp only [shapeAt, HA, HB, HC, HI, List.getElem?_cons_zero, List.getElem?_cons_succ, Nat.add_zero] at s0 s1 s2 s3
  have HR0 := RdS.begin (ss := [.bool true, .bool true, .bool false, .bool false]) h hw rfl
  obtain ⟨g1, hg1⟩ : ∃ g1, g1 = w.heap.size + 1 := ⟨_, rfl⟩
  obtain ⟨g0, hg0⟩ : ∃ g0, g0 = w.heap.size := ⟨_, rfl⟩
  rw [← hg1, ← hg0] at HR0
  rw [← hg1, ← hg0]
  have HR : Hid (RdS _ _ _ _ _ _ _) := HR0
  have HK := hx
  clear hw ht h hk HA HB HC HI HR0 hg1 hg0
  go_wp2_with fail
  refine (reg22 x _ hx).mono ?_
  rintro e w2 ⟨rfl, hw2⟩
  rw [← hw2] at HR
  obtain ⟨g2, hg2⟩ : ∃ g2, g2 = w1.heap.size := ⟨_, rfl⟩
  rw [← hg2] at HR
  rw [← hg2]
  clear s0 s1 s2 s3 hg2 hw2
  have HQ := HR.out
  clear HR
  have HR : Hid (RdS _ _ _ _ _ _ _) := HQ
  have c0 := HQ.i.cell 0 rfl
  have c1 := HQ.i.cell 1 rfl
  have c2 := HQ.i.cell 2 rfl
  have c3 := HQ.i.cell 3 rfl
  have c4 := HQ.i.cell 4 rfl
  have s0 := HQ.h.cell 0 rfl
  have s1 := HQ.h.cell 1 rfl
  have s2 := HQ.h.cell 2 rfl
  have s3 := HQ.h.cell 3 rfl
  have f1 := HQ.i.frozen 1
  have f2 := HQ.i.frozen 2
  have f3 := HQ.i.frozen 3
  have f4 := HQ.i.frozen 4
  have n1 := HQ.d12
  have n2 := HQ.d12.symm
  clear HQ
  go_wp2_with fail
  refine (reg18 x _ hx).mono ?_
  rintro e w2 ⟨rfl, hw2⟩
  have HQ := HR.out.store 1 (.int .i64 ((x : Int) / 4194304 % 16))
  rw [← hw2] at HQ
  clear hw2 c0 c1 c2 c3 c4 s0 s1 s2 s3 f1 f2 f3 f4 n1 n2 HR
  simp only [List.set_cons_zero, List.set_cons_succ] at HQ
  have HR : Hid (RdS _ _ _ _ _ _ _) := HQ
  have c0 := HQ.i.cell 0 rfl
  have c1 := HQ.i.cell 1 rfl
  have c2 := HQ.i.cell 2 rfl
  have c3 := HQ.i.cell 3 rfl
  have c4 := HQ.i.cell 4 rfl
  have s0 := HQ.h.cell 0 rfl
  have s1 := HQ.h.cell 1 rfl
  have s2 := HQ.h.cell 2 rfl
  have s3 := HQ.h.cell 3 rfl
  have f1 := HQ.i.frozen 1
  have f2 := HQ.i.frozen 2
  have f3 := HQ.i.frozen 3
  have f4 := HQ.i.frozen 4
  have n1 := HQ.d12
  have n2 := HQ.d12.symm
  clear HQ
  go_wp2_with (refine wpList_load_row rfl 40 (.tmp 3) rfl g1 rfl 40 _ (0, 0) _ (HR.out.store 2 (.int .i64 ((x : Int) / 262144 % 16))).i Tryd.underlying40 rfl (by kernel_rfl) ?_; refine Hid.out ?_)
  unfold Hid
  have HQ := HR.out.store 2 (.int .i64 ((x : Int) / 262144 % 16))
  refine wpList_store_row rfl rfl 40 (.tmp 2) (.tmp 38) rfl g0 rfl _ rfl _ 40 HQ.r (by kernel_rfl) rfl rfl w.heap.size HQ.lo0 ?_
  intro W3 hB hK hs
  have HF : Hid (Below w.heap.size w W3) := HQ.bel.trans hK
  have HB : Hid (Blk _ _ _ _) := hB
  clear HQ hB hK hs HR
  go_wp2
  refine bodyPost_ret (results_cell_row rfl _ _ g0 40 _ (0, 0) _ rfl HB.out Tryd.underlying40 rfl (by kernel_rfl)) rfl ?_
  exact ⟨rfl, HF.out⟩

set_option maxHeartbeats 1000000 in
theorem read_abc (x : Nat) (hx : x < 4294967296) (w : World) (h : Tabs w) (k : Nat) (hk : formOf ((x : Int) / 67108864) = (k : Int)) (hk8 : k < 8) (HA : hasA k = true) (HB : hasB k = true) (HC : hasC k = true) (HI : hasI k = false) :
    Calls Tryd.prog 34 #[.int .u32 x] w fun e w' => e = .returned (insV ((x : Int) / 67108864) ((x : Int) / 4194304 % 16) ((x : Int) / 262144 % 16) ((x : Int) / 16384 % 16) 0) ∧ Below w.heap.size w w' := by
  unfold insV
  go_enter Tryd.func34, Tryd.ntmps34
  go_wp2_with fail
  refine (form_any _ _ (boxed2 (cs := [_, _, _, _, _]) (ds := [_, _, _, _, _]) h rfl).1).mono ?_
  rintro e w1 ⟨rfl, hw⟩
  rw [hk]
  have ht := (boxed2 (cs := [_, _, _, _, _]) (ds := [_, _, _, _, _]) h hw).1
  have s0 := ht.shape k 0 hk8 (by omega)
  have s1 := ht.shape k 1 hk8 (by omega)
  have s2 := ht.shape k 2 hk8 (by omega)
  have s3 := ht.shape k 3 hk8 (by omega)
  simp only [shapeAt, HA, HB, HC, HI, List.getElem?_cons_zero, List.getElem?_cons_succ, Nat.add_zero] at s0 s1 s2 s3
  have HR0 := RdS.begin (ss := [.bool true, .bool true, .bool true, .bool false]) h hw rfl
  obtain ⟨g1, hg1⟩ : ∃ g1, g1 = w.heap.size + 1 := ⟨_, rfl⟩
  obtain ⟨g0, hg0⟩ : ∃ g0, g0 = w.heap.size := ⟨_, rfl⟩
  rw [← hg1, ← hg0] at HR0
  rw [← hg1, ← hg0]
  have HR : Hid (RdS _ _ _ _ _ _ _) := HR0
  have HK := hx
  clear hw ht h hk HA HB HC HI HR0 hg1 hg0
  go_wp2_with fail
  refine (reg22 x _ hx).mono ?_
  rintro e w2 ⟨rfl, hw2⟩
  rw [← hw2] at HR
  obtain ⟨g2, hg2⟩ : ∃ g2, g2 = w1.heap.size := ⟨_, rfl⟩
  rw [← hg2] at HR
  rw [← hg2]
  clear s0 s1 s2 s3 hg2 hw2
  have HQ := HR.out
  clear HR
  have HR : Hid (RdS _ _ _ _ _ _ _) := HQ
  have c0 := HQ.i.cell 0 rfl
  have c1 := HQ.i.cell 1 rfl
  have c2 := HQ.i.cell 2 rfl
  have c3 := HQ.i.cell 3 rfl
  have c4 := HQ.i.cell 4 rfl
  have s0 := HQ.h.cell 0 rfl
  have s1 := HQ.h.cell 1 rfl
  have s2 := HQ.h.cell 2 rfl
  have s3 := HQ.h.cell 3 rfl
  have f1 := HQ.i.frozen 1
  have f2 := HQ.i.frozen 2
  have f3 := HQ.i.frozen 3
  have f4 := HQ.i.frozen 4
  have n1 := HQ.d12
  have n2 := HQ.d12.symm
  clear HQ
  go_wp2_with fail
  refine (reg18 x _ hx).mono ?_
  rintro e w2 ⟨rfl, hw2⟩
  have HQ := HR.out.store 1 (.int .i64 ((x : Int) / 4194304 % 16))
  rw [← hw2] at HQ
  clear hw2 c0 c1 c2 c3 c4 s0 s1 s2 s3 f1 f2 f3 f4 n1 n2 HR
  simp only [List.set_cons_zero, List.set_cons_succ] at HQ
  have HR : Hid (RdS _ _ _ _ _ _ _) := HQ
  have c0 := HQ.i.cell 0 rfl
  have c1 := HQ.i.cell 1 rfl
  have c2 := HQ.i.cell 2 rfl
  have c3 := HQ.i.cell 3 rfl
  have c4 := HQ.i.cell 4 rfl
  have s0 := HQ.h.cell 0 rfl
  have s1 := HQ.h.cell 1 rfl
  have s2 := HQ.h.cell 2 rfl
  have s3 := HQ.h.cell 3 rfl
  have f1 := HQ.i.frozen 1
  have f2 := HQ.i.frozen 2
  have f3 := HQ.i.frozen 3
  have f4 := HQ.i.frozen 4
  have n1 := HQ.d12
  have n2 := HQ.d12.symm
  clear HQ
  go_wp2_with fail
  refine (reg14 x _ hx).mono ?_
  rintro e w2 ⟨rfl, hw2⟩
  have HQ := HR.out.store 2 (.int .i64 ((x : Int) / 262144 % 16))
  rw [← hw2] at HQ
  clear hw2 c0 c1 c2 c3 c4 s0 s1 s2 s3 f1 f2 f3 f4 n1 n2 HR
  simp only [List.set_cons_zero, List.set_cons_succ] at HQ
  have HR : Hid (RdS _ _ _ _ _ _ _) := HQ
  have c0 := HQ.i.cell 0 rfl
  have c1 := HQ.i.cell 1 rfl
  have c2 := HQ.i.cell 2 rfl
  have c3 := HQ.i.cell 3 rfl
  have c4 := HQ.i.cell 4 rfl
  have s0 := HQ.h.cell 0 rfl
  have s1 := HQ.h.cell 1 rfl
  have s2 := HQ.h.cell 2 rfl
  have s3 := HQ.h.cell 3 rfl
  have f1 := HQ.i.frozen 1
  have f2 := HQ.i.frozen 2
  have f3 := HQ.i.frozen 3
  have f4 := HQ.i.frozen 4
  have n1 := HQ.d12
  have n2 := HQ.d12.symm
  clear HQ
  go_wp2_with (refine wpList_load_row rfl 40 (.tmp 3) rfl g1 rfl 40 _ (0, 0) _ (HR.out.store 3 (.int .i64 ((x : Int) / 16384 % 16))).i Tryd.underlying40 rfl (by kernel_rfl) ?_; refine Hid.out ?_)
  unfold Hid
  have HQ := HR.out.store 3 (.int .i64 ((x : Int) / 16384 % 16))
  refine wpList_store_row rfl rfl 40 (.tmp 2) (.tmp 38) rfl g0 rfl _ rfl _ 40 HQ.r (by kernel_rfl) rfl rfl w.heap.size HQ.lo0 ?_
  intro W3 hB hK hs
  have HF : Hid (Below w.heap.size w W3) := HQ.bel.trans hK
  have HB : Hid (Blk _ _ _ _) := hB
  clear HQ hB hK hs HR
  go_wp2
  refine bodyPost_ret (results_cell_row rfl _ _ g0 40 _ (0, 0) _ rfl HB.out Tryd.underlying40 rfl (by kernel_rfl)) rfl ?_
  exact ⟨rfl, HF.out⟩

set_option maxHeartbeats 1000000 in
theorem read_ai (x : Nat) (hx : x < 4294967296) (w : World) (h : Tabs w) (k : Nat) (hk : formOf ((x : Int) / 67108864) = (k : Int)) (hk8 : k < 8) (HA : hasA k = true) (HB : hasB k = false) (HC : hasC k = false) (HI : hasI k = true) :
    Calls Tryd.prog 34 #[.int .u32 x] w fun e w' => e = .returned (insV ((x : Int) / 67108864) ((x : Int) / 4194304 % 16) 0 0 (sgn18 ((x : Int) % 262144))) ∧ Below w.heap.size w w' := by
  unfold insV
  go_enter Tryd.func34, Tryd.ntmps34
  go_wp2_with fail
  refine (form_any _ _ (boxed2 (cs := [_, _, _, _, _]) (ds := [_, _, _, _, _]) h rfl).1).mono ?_
  rintro e w1 ⟨rfl, hw⟩
  rw [hk]
  have ht := (boxed2 (cs := [_, _, _, _, _]) (ds := [_, _, _, _, _]) h hw).1
  have s0 := ht.shape k 0 hk8 (by omega)
  have s1 := ht.shape k 1 hk8 (by omega)
  have s2 := ht.shape k 2 hk8 (by omega)
  have s3 := ht.shape k 3 hk8 (by omega)
  simp only [shapeAt, HA, HB, HC, HI, List.getElem?_cons_zero, List.getElem?_cons_succ, Nat.add_zero] at s0 s1 s2 s3
  have HR0 := RdS.begin (ss := [.bool true, .bool false, .bool false, .bool true]) h hw rfl
  obtain ⟨g1, hg1⟩ : ∃ g1, g1 = w.heap.size + 1 := ⟨_, rfl⟩
  obtain ⟨g0, hg0⟩ : ∃ g0, g0 = w.heap.size := ⟨_, rfl⟩
  rw [← hg1, ← hg0] at HR0
  rw [← hg1, ← hg0]
  have HR : Hid (RdS _ _ _ _ _ _ _) := HR0
  have HK := hx
  clear hw ht h hk HA HB HC HI HR0 hg1 hg0
  go_wp2_with fail
  refine (reg22 x _ hx).mono ?_
  rintro e w2 ⟨rfl, hw2⟩
  rw [← hw2] at HR
  obtain ⟨g2, hg2⟩ : ∃ g2, g2 = w1.heap.size := ⟨_, rfl⟩
  rw [← hg2] at HR
  rw [← hg2]
  clear s0 s1 s2 s3 hg2 hw2
  have HQ := HR.out
  clear HR
  have HR : Hid (RdS _ _ _ _ _ _ _) := HQ
  have c0 := HQ.i.cell 0 rfl
  have c1 := HQ.i.cell 1 rfl
  have c2 := HQ.i.cell 2 rfl
  have c3 := HQ.i.cell 3 rfl
  have c4 := HQ.i.cell 4 rfl
  have s0 := HQ.h.cell 0 rfl
  have s1 := HQ.h.cell 1 rfl
  have s2 := HQ.h.cell 2 rfl
  have s3 := HQ.h.cell 3 rfl
  have f1 := HQ.i.frozen 1
  have f2 := HQ.i.frozen 2
  have f3 := HQ.i.frozen 3
  have f4 := HQ.i.frozen 4
  have n1 := HQ.d12
  have n2 := HQ.d12.symm
  clear HQ
  go_wp2_with fail
  have e4 : bits .and .u32 (x : Int) 262143 = ((x % 262144 : Nat) : Int) := by
    have := mask18 (x : Int)
    rw [show (x : Int) % 4294967296 = (x : Int) by omega] at this
    rw [this]; omega
  rw [e4]
  clear e4
  refine (sgn_any (x % 262144) _ (by omega)).mono ?_
  rintro e w2 ⟨rfl, hw2⟩
  have HQ := HR.out.store 1 (.int .i64 ((x : Int) / 4194304 % 16))
  rw [← hw2] at HQ
  clear hw2 c0 c1 c2 c3 c4 s0 s1 s2 s3 f1 f2 f3 f4 n1 n2 HR
  simp only [List.set_cons_zero, List.set_cons_succ] at HQ
  have HR : Hid (RdS _ _ _ _ _ _ _) := HQ
  have c0 := HQ.i.cell 0 rfl
  have c1 := HQ.i.cell 1 rfl
  have c2 := HQ.i.cell 2 rfl
  have c3 := HQ.i.cell 3 rfl
  have c4 := HQ.i.cell 4 rfl
  have s0 := HQ.h.cell 0 rfl
  have s1 := HQ.h.cell 1 rfl
  have s2 := HQ.h.cell 2 rfl
  have s3 := HQ.h.cell 3 rfl
  have f1 := HQ.i.frozen 1
  have f2 := HQ.i.frozen 2
  have f3 := HQ.i.frozen 3
  have f4 := HQ.i.frozen 4
  have n1 := HQ.d12
  have n2 := HQ.d12.symm
  clear HQ
  go_wp2_with (refine wpList_load_row rfl 40 (.tmp 3) rfl g1 rfl 40 _ (0, 0) _ (HR.out.store 4 (.int .i64 (sgn18 ((x : Int) % 262144)))).i Tryd.underlying40 rfl (by kernel_rfl) ?_; refine Hid.out ?_)
  unfold Hid
  have HQ := HR.out.store 4 (.int .i64 (sgn18 ((x : Int) % 262144)))
  refine wpList_store_row rfl rfl 40 (.tmp 2) (.tmp 38) rfl g0 rfl _ rfl _ 40 HQ.r (by kernel_rfl) rfl rfl w.heap.size HQ.lo0 ?_
  intro W3 hB hK hs
  have HF : Hid (Below w.heap.size w W3) := HQ.bel.trans hK
  have HB : Hid (Blk _ _ _ _) := hB
  clear HQ hB hK hs HR
  go_wp2
  refine bodyPost_ret (results_cell_row rfl _ _ g0 40 _ (0, 0) _ rfl HB.out Tryd.underlying40 rfl (by kernel_rfl)) rfl ?_
  exact ⟨rfl, HF.out⟩

set_option maxHeartbeats 1000000 in
theorem read_abi (x : Nat) (hx : x < 4294967296) (w : World) (h : Tabs w) (k : Nat) (hk : formOf ((x : Int) / 67108864) = (k : Int)) (hk8 : k < 8) (HA : hasA k = true) (HB : hasB k = true) (HC : hasC k = false) (HI : hasI k = true) :
    Calls Tryd.prog 34 #[.int .u32 x] w fun e w' => e = .returned (insV ((x : Int) / 67108864) ((x : Int) / 4194304 % 16) ((x : Int) / 262144 % 16) 0 (sgn18 ((x : Int) % 262144))) ∧ Below w.heap.size w w' := by
  unfold insV
  go_enter Tryd.func34, Tryd.ntmps34
  go_wp2_with fail
  refine (form_any _ _ (boxed2 (cs := [_, _, _, _, _]) (ds := [_, _, _, _, _]) h rfl).1).mono ?_
  rintro e w1 ⟨rfl, hw⟩
  rw [hk]
  have ht := (boxed2 (cs := [_, _, _, _, _]) (ds := [_, _, _, _, _]) h hw).1
  have s0 := ht.shape k 0 hk8 (by omega)
  have s1 := ht.shape k 1 hk8 (by omega)
  have s2 := ht.shape k 2 hk8 (by omega)
  have s3 := ht.shape k 3 hk8 (by omega)
  simp only [shapeAt, HA, HB, HC, HI, List.getElem?_cons_zero, List.getElem?_cons_succ, Nat.add_zero] at s0 s1 s2 s3
  have HR0 := RdS.begin (ss := [.bool true, .bool true, .bool false, .bool true]) h hw rfl
  obtain ⟨g1, hg1⟩ : ∃ g1, g1 = w.heap.size + 1 := ⟨_, rfl⟩
  obtain ⟨g0, hg0⟩ : ∃ g0, g0 = w.heap.size := ⟨_, rfl⟩
  rw [← hg1, ← hg0] at HR0
  rw [← hg1, ← hg0]
  have HR : Hid (RdS _ _ _ _ _ _ _) := HR0
  have HK := hx
  clear hw ht h hk HA HB HC HI HR0 hg1 hg0
  go_wp2_with fail
  refine (reg22 x _ hx).mono ?_
  rintro e w2 ⟨rfl, hw2⟩
  rw [← hw2] at HR
  obtain ⟨g2, hg2⟩ : ∃ g2, g2 = w1.heap.size := ⟨_, rfl⟩
  rw [← hg2] at HR
  rw [← hg2]
  clear s0 s1 s2 s3 hg2 hw2
  have HQ := HR.out
  clear HR
  have HR : Hid (RdS _ _ _ _ _ _ _) := HQ
  have c0 := HQ.i.cell 0 rfl
  have c1 := HQ.i.cell 1 rfl
  have c2 := HQ.i.cell 2 rfl
  have c3 := HQ.i.cell 3 rfl
  have c4 := HQ.i.cell 4 rfl
  have s0 := HQ.h.cell 0 rfl
  have s1 := HQ.h.cell 1 rfl
  have s2 := HQ.h.cell 2 rfl
  have s3 := HQ.h.cell 3 rfl
  have f1 := HQ.i.frozen 1
  have f2 := HQ.i.frozen 2
  have f3 := HQ.i.frozen 3
  have f4 := HQ.i.frozen 4
  have n1 := HQ.d12
  have n2 := HQ.d12.symm
  clear HQ
  go_wp2_with fail
  refine (reg18 x _ hx).mono ?_
  rintro e w2 ⟨rfl, hw2⟩
  have HQ := HR.out.store 1 (.int .i64 ((x : Int) / 4194304 % 16))
  rw [← hw2] at HQ
  clear hw2 c0 c1 c2 c3 c4 s0 s1 s2 s3 f1 f2 f3 f4 n1 n2 HR
  simp only [List.set_cons_zero, List.set_cons_succ] at HQ
  have HR : Hid (RdS _ _ _ _ _ _ _) := HQ
  have c0 := HQ.i.cell 0 rfl
  have c1 := HQ.i.cell 1 rfl
  have c2 := HQ.i.cell 2 rfl
  have c3 := HQ.i.cell 3 rfl
  have c4 := HQ.i.cell 4 rfl
  have s0 := HQ.h.cell 0 rfl
  have s1 := HQ.h.cell 1 rfl
  have s2 := HQ.h.cell 2 rfl
  have s3 := HQ.h.cell 3 rfl
  have f1 := HQ.i.frozen 1
  have f2 := HQ.i.frozen 2
  have f3 := HQ.i.frozen 3
  have f4 := HQ.i.frozen 4
  have n1 := HQ.d12
  have n2 := HQ.d12.symm
  clear HQ
  go_wp2_with fail
  have e4 : bits .and .u32 (x : Int) 262143 = ((x % 262144 : Nat) : Int) := by
    have := mask18 (x : Int)
    rw [show (x : Int) % 4294967296 = (x : Int) by omega] at this
    rw [this]; omega
  rw [e4]
  clear e4
  refine (sgn_any (x % 262144) _ (by omega)).mono ?_
  rintro e w2 ⟨rfl, hw2⟩
  have HQ := HR.out.store 2 (.int .i64 ((x : Int) / 262144 % 16))
  rw [← hw2] at HQ
  clear hw2 c0 c1 c2 c3 c4 s0 s1 s2 s3 f1 f2 f3 f4 n1 n2 HR
  simp only [List.set_cons_zero, List.set_cons_succ] at HQ
  have HR : Hid (RdS _ _ _ _ _ _ _) := HQ
  have c0 := HQ.i.cell 0 rfl
  have c1 := HQ.i.cell 1 rfl
  have c2 := HQ.i.cell 2 rfl
  have c3 := HQ.i.cell 3 rfl
  have c4 := HQ.i.cell 4 rfl
  have s0 := HQ.h.cell 0 rfl
  have s1 := HQ.h.cell 1 rfl
  have s2 := HQ.h.cell 2 rfl
  have s3 := HQ.h.cell 3 rfl
  have f1 := HQ.i.frozen 1
  have f2 := HQ.i.frozen 2
  have f3 := HQ.i.frozen 3
  have f4 := HQ.i.frozen 4
  have n1 := HQ.d12
  have n2 := HQ.d12.symm
  clear HQ
  go_wp2_with (refine wpList_load_row rfl 40 (.tmp 3) rfl g1 rfl 40 _ (0, 0) _ (HR.out.store 4 (.int .i64 (sgn18 ((x : Int) % 262144)))).i Tryd.underlying40 rfl (by kernel_rfl) ?_; refine Hid.out ?_)
  unfold Hid
  have HQ := HR.out.store 4 (.int .i64 (sgn18 ((x : Int) % 262144)))
  refine wpList_store_row rfl rfl 40 (.tmp 2) (.tmp 38) rfl g0 rfl _ rfl _ 40 HQ.r (by kernel_rfl) rfl rfl w.heap.size HQ.lo0 ?_
  intro W3 hB hK hs
  have HF : Hid (Below w.heap.size w W3) := HQ.bel.trans hK
  have HB : Hid (Blk _ _ _ _) := hB
  clear HQ hB hK hs HR
  go_wp2
  refine bodyPost_ret (results_cell_row rfl _ _ g0 40 _ (0, 0) _ rfl HB.out Tryd.underlying40 rfl (by kernel_rfl)) rfl ?_
  exact ⟨rfl, HF.out⟩

set_option maxHeartbeats 1000000 in
theorem read_i (x : Nat) (hx : x < 4294967296) (w : World) (h : Tabs w) (k : Nat) (hk : formOf ((x : Int) / 67108864) = (k : Int)) (hk8 : k < 8) (HA : hasA k = false) (HB : hasB k = false) (HC : hasC k = false) (HI : hasI k = true) :
    Calls Tryd.prog 34 #[.int .u32 x] w fun e w' => e = .returned (insV ((x : Int) / 67108864) 0 0 0 (sgn18 ((x : Int) % 262144))) ∧ Below w.heap.size w w' := by
  unfold insV
  go_enter Tryd.func34, Tryd.ntmps34
  go_wp2_with fail
  refine (form_any _ _ (boxed2 (cs := [_, _, _, _, _]) (ds := [_, _, _, _, _]) h rfl).1).mono ?_
  rintro e w1 ⟨rfl, hw⟩
  rw [hk]
  have ht := (boxed2 (cs := [_, _, _, _, _]) (ds := [_, _, _, _, _]) h hw).1
  have s0 := ht.shape k 0 hk8 (by omega)
  have s1 := ht.shape k 1 hk8 (by omega)
  have s2 := ht.shape k 2 hk8 (by omega)
  have s3 := ht.shape k 3 hk8 (by omega)
  simp only [shapeAt, HA, HB, HC, HI, List.getElem?_cons_zero, List.getElem?_cons_succ, Nat.add_zero] at s0 s1 s2 s3
  have HR0 := RdS.begin (ss := [.bool false, .bool false, .bool false, .bool true]) h hw rfl
  obtain ⟨g1, hg1⟩ : ∃ g1, g1 = w.heap.size + 1 := ⟨_, rfl⟩
  obtain ⟨g0, hg0⟩ : ∃ g0, g0 = w.heap.size := ⟨_, rfl⟩
  rw [← hg1, ← hg0] at HR0
  rw [← hg1, ← hg0]
  have HR : Hid (RdS _ _ _ _ _ _ _) := HR0
  have HK := hx
  clear hw ht h hk HA HB HC HI HR0 hg1 hg0
  go_wp2_with fail
  have e4 : bits .and .u32 (x : Int) 262143 = ((x % 262144 : Nat) : Int) := by
    have := mask18 (x : Int)
    rw [show (x : Int) % 4294967296 = (x : Int) by omega] at this
    rw [this]; omega
  rw [e4]
  clear e4
  refine (sgn_any (x % 262144) _ (by omega)).mono ?_
  rintro e w2 ⟨rfl, hw2⟩
  rw [← hw2] at HR
  obtain ⟨g2, hg2⟩ : ∃ g2, g2 = w1.heap.size := ⟨_, rfl⟩
  rw [← hg2] at HR
  rw [← hg2]
  clear s0 s1 s2 s3 hg2 hw2
  have HQ := HR.out
  clear HR
  have HR : Hid (RdS _ _ _ _ _ _ _) := HQ
  have c0 := HQ.i.cell 0 rfl
  have c1 := HQ.i.cell 1 rfl
  have c2 := HQ.i.cell 2 rfl
  have c3 := HQ.i.cell 3 rfl
  have c4 := HQ.i.cell 4 rfl
  have s0 := HQ.h.cell 0 rfl
  have s1 := HQ.h.cell 1 rfl
  have s2 := HQ.h.cell 2 rfl
  have s3 := HQ.h.cell 3 rfl
  have f1 := HQ.i.frozen 1
  have f2 := HQ.i.frozen 2
  have f3 := HQ.i.frozen 3
  have f4 := HQ.i.frozen 4
  have n1 := HQ.d12
  have n2 := HQ.d12.symm
  clear HQ
  go_wp2_with (refine wpList_load_row rfl 40 (.tmp 3) rfl g1 rfl 40 _ (0, 0) _ (HR.out.store 4 (.int .i64 (sgn18 ((x : Int) % 262144)))).i Tryd.underlying40 rfl (by kernel_rfl) ?_; refine Hid.out ?_)
  unfold Hid
  have HQ := HR.out.store 4 (.int .i64 (sgn18 ((x : Int) % 262144)))
  refine wpList_store_row rfl rfl 40 (.tmp 2) (.tmp 38) rfl g0 rfl _ rfl _ 40 HQ.r (by kernel_rfl) rfl rfl w.heap.size HQ.lo0 ?_
  intro W3 hB hK hs
  have HF : Hid (Below w.heap.size w W3) := HQ.bel.trans hK
  have HB : Hid (Blk _ _ _ _) := hB
  clear HQ hB hK hs HR
  go_wp2
  refine bodyPost_ret (results_cell_row rfl _ _ g0 40 _ (0, 0) _ rfl HB.out Tryd.underlying40 rfl (by kernel_rfl)) rfl ?_
  exact ⟨rfl, HF.out⟩

end Go.Proofs.YtohojpacijnnaaaDoor.Is
