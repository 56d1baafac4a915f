import Derived.Test.YtfbapgcopidbpaaGreatVc
namespace Go.Proofs.YtfbapgcopidbpaaGreat
open Go.RowKit Go.Shelf
open Mq (SegW wvs wvs_length wvs_get run_make_words run_copy_wb segW_of_blk)
set_option linter.unusedVariables false
set_option maxRecDepth 6000
set_option linter.unusedSimpArgs false
def MayF (x : Cfg) (fs : List Fd) : Prop := (∀ f ∈ fs, f.ok x) ∧ (fs.map Fd.key).Nodup
def TidP (x : Cfg) (fs : List Fd) (w : World) (e : Ending) (w' : World) : Prop :=
 Keeps (fun _ => False) w w' ∧ ((¬ MayF x fs ∧ e = .returned (.tuple #[.map none, .bool false])) ∨
  (MayF x fs ∧ ∃ m R, e = .returned (.tuple #[.map (some m), .bool true]) ∧ Td w' m w.heap.size R ∧ R.map Tr.k3 = (fs.filter fun f => !f.ws.isEmpty).map Fd.k3))
theorem k3_key {R : List Tr} {fs : List Fd} (h : R.map Tr.k3 = fs.map Fd.k3) : R.map (fun r => (r.e, r.p)) = fs.map Fd.key := by
 have := congrArg (List.map fun t : Int × Int × List UInt32 => (t.1, t.2.1)) h
 rw [List.map_map, List.map_map] at this
 exact this
theorem not_key {R : List Tr} {fs : List Fd} (h : R.map Tr.k3 = fs.map Fd.k3) {f : Fd} (hn : f.key ∉ fs.map Fd.key) : ∀ p ∈ R.map Tr.kv, p.1 ≠ kv f.e f.p := by
 intro p hp he
 obtain ⟨r, hr, rfl⟩ := List.mem_map.1 hp
 obtain ⟨h1, h2⟩ := kv_inj he
 refine hn ?_
 rw [← k3_key h]
 exact List.mem_map.2 ⟨r, hr, by unfold Fd.key; rw [h1, h2]⟩
theorem is_key {R : List Tr} {fs : List Fd} (h : R.map Tr.k3 = fs.map Fd.k3) {f : Fd} (hn : f.key ∈ fs.map Fd.key) : ∃ v, (kv f.e f.p, v) ∈ R.map Tr.kv := by
 rw [← k3_key h] at hn
 obtain ⟨r, hr, he⟩ := List.mem_map.1 hn
 unfold Fd.key at he
 simp only [Prod.mk.injEq] at he
 refine ⟨.slice (some ⟨r.g, 0, none⟩) r.ws.length r.ws.length, List.mem_map.2 ⟨r, hr, ?_⟩⟩
 unfold Tr.kv; rw [he.1, he.2]
theorem MapIs.ne {P : Program} {k : TypeId} {w : World} {m g : Nat} {l : List (Value × Value)} {cs : List Value} {t : TypeId} (h : MapIs P k w m l) (hb : Blk w g cs t) : g ≠ m := by
 intro e
 obtain ⟨es, c, h1, _⟩ := h
 rw [← e] at h1
 unfold Blk at hb
 rw [hb] at h1
 cases h1
def Tr.has (r : Tr) : Bool := !r.ws.isEmpty
theorem k3_nodup {R : List Tr} {fs : List Fd} {w : World} {m : Nat} (h : R.map Tr.k3 = fs.map Fd.k3) (hm : MapIs Tryz.prog 73 w m (R.map Tr.kv)) : (fs.map Fd.key).Nodup := by
 obtain ⟨es, c, _, _, h3, _⟩ := hm
 rw [← k3_key h]
 rw [List.map_map] at h3
 refine List.Pairwise.map _ ?_ (List.pairwise_map.1 h3)
 intro a b hab he
 simp only [Prod.mk.injEq] at he
 exact hab (by simp only [Function.comp, Tr.kv, he.1, he.2])
theorem k3_at {R : List Tr} {fs : List Fd} (h : R.map Tr.k3 = fs.map Fd.k3) {k : Nat} {f : Fd} (hf : fs[k]? = some f) : ∃ r, R[k]? = some r ∧ r.k3 = f.k3 := by
 have h1 := congrArg (fun l => l[k]?) h
 simp only [List.getElem?_map, hf, Option.map_some] at h1
 cases hr : R[k]? with
 | none => rw [hr] at h1; simp at h1
 | some r => rw [hr] at h1; exact ⟨r, rfl, by simpa using h1⟩
theorem k3_ws {r : Tr} {f : Fd} (h : r.k3 = f.k3) : r.ws = f.ws := by
 unfold Tr.k3 Fd.k3 at h
 simp only [Prod.mk.injEq] at h
 exact h.2.2
theorem drop_at {R : List Tr} {k : Nat} {r : Tr} (h : R[k]? = some r) : R.drop k = r :: R.drop (k + 1) := by
 obtain ⟨hk, he⟩ := List.getElem?_eq_some_iff.1 h
 rw [← he, List.getElem_cons_drop]
theorem drop_mem {R : List Tr} {k : Nat} {q : Tr} (h : q ∈ R.drop (k + 1)) : q ∈ R.drop k := by
 rw [← List.drop_drop, List.drop_one] at h
 exact List.mem_of_mem_tail h
theorem take_no {R : List Tr} {k : Nat} {r : Tr} (h : R[k]? = some r) (hw : r.ws = []) : (R.take (k + 1)).filter Tr.has ++ R.drop (k + 1) = (R.take k).filter Tr.has ++ R.drop (k + 1) := by
 rw [List.take_add_one, h, List.filter_append]
 simp [Tr.has, hw]
theorem take_yes {R : List Tr} {k : Nat} {r : Tr} (h : R[k]? = some r) (hw : r.ws ≠ []) : (R.take (k + 1)).filter Tr.has ++ R.drop (k + 1) = (R.take k).filter Tr.has ++ R.drop k := by
 rw [List.take_add_one, h, List.filter_append, drop_at h]
 have : Tr.has r = true := by simp [Tr.has, hw]
 simp [this]
theorem drop_form {w : World} {m : Nat} {R : List Tr} {k : Nat} {r : Tr} {f : Fd} (hm : MapIs Tryz.prog 73 w m (((R.take k).filter Tr.has ++ R.drop k).map Tr.kv)) (h : R[k]? = some r) (hk : r.k3 = f.k3) :
  MapIs Tryz.prog 73 w m (((R.take k).filter Tr.has).map Tr.kv ++ (kv f.e f.p, .slice (some ⟨r.g, 0, none⟩) r.ws.length r.ws.length) :: (R.drop (k + 1)).map Tr.kv) := by
 rw [drop_at h, List.map_append, List.map_cons] at hm
 unfold Tr.k3 Fd.k3 at hk
 simp only [Prod.mk.injEq] at hk
 rw [← hk.1, ← hk.2.1]
 exact hm
theorem k3_filter {R : List Tr} {fs : List Fd} (h : R.map Tr.k3 = fs.map Fd.k3) : (R.filter Tr.has).map Tr.k3 = (fs.filter fun f => !f.ws.isEmpty).map Fd.k3 := by
 have h1 := congrArg (List.filter fun t : Int × Int × List UInt32 => !t.2.2.isEmpty) h
 rw [List.filter_map, List.filter_map] at h1
 exact h1
theorem dup_take {fs : List Fd} {j : Nat} {f : Fd} (h : fs[j]? = some f) (hd : f.key ∈ (fs.take j).map Fd.key) : ¬ (fs.map Fd.key).Nodup := by
 intro hn
 obtain ⟨hj, he⟩ := List.getElem?_eq_some_iff.1 h
 have e : fs = fs.take j ++ f :: fs.drop (j + 1) := by rw [← he, List.getElem_cons_drop, List.take_append_drop]
 rw [e, List.map_append, List.map_cons, List.nodup_append] at hn
 exact hn.2.2 _ hd _ (by simp) rfl
theorem ok_len {x : Cfg} {f : Fd} (h : f.ok x) (hin : ∀ P ∈ x.ps, P.inputs ≤ 1048576) : f.ws.length ≤ 1048576 := by
 obtain ⟨h0, h1, h2, h3, h4⟩ := h
 obtain ⟨P, hP⟩ : ∃ P, x.ps[f.p.toNat]? = some P := ⟨_, List.getElem?_eq_getElem (by omega)⟩
 have := h4 P hP
 have := hin P (List.mem_of_getElem? hP)
 omega
set_option maxHeartbeats 4000000 in
theorem tidings_any (x : Cfg) (fs : List Fd) (a : Option Addr) (c : Nat) (w : World) (N : Nat) (hi : x.In w N) (hN : N ≤ w.heap.size) (hf : FdsIn w N a c fs) (hl : fs.length ≤ 4096) (hin : ∀ P ∈ x.ps, P.inputs ≤ 1048576) :
  Calls Tryz.prog 26 #[x.v, .slice a fs.length c] w (TidP x fs w) := by
 obtain ⟨W, hW⟩ : ∃ W, W = (x.laid w).alloc (.map #[] 0) := ⟨_, rfl⟩
 obtain ⟨C, hC⟩ : ∃ C, C = w.heap.size := ⟨_, rfl⟩
 obtain ⟨M, hM⟩ : ∃ M, M = C + 1 := ⟨_, rfl⟩
 obtain ⟨L, hL⟩ : ∃ L, fs.length = L := ⟨_, rfl⟩
 have hM0 : M = (x.laid w).heap.size := by rw [hM, hC]; simp [Cfg.laid]
 have HI : Hid (TdI w x C N M a c fs [] W) := by
  have hK : Keeps (fun _ => False) w W := by rw [hW]; exact ((Keeps.refl _ _).alloc _).alloc _
  refine ⟨?_, hf.kept hK fun _ h => h.elim, ⟨?_, fun r hr => (by cases hr), by omega⟩⟩
  ·
   rw [hW, hC]; exact (One.mk' hi hN).kept ((Keeps.refl _ _).alloc _)
  ·
   rw [hW, hM0]; exact MapIs.new _ _ _
 have HS : Hid (fs.length = L ∧ (∀ P ∈ x.ps, P.inputs ≤ 1048576) ∧ L ≤ 4096) := ⟨hL, hin, by omega⟩
 have hmk := run_makeMap_hint (L : Int) (x.laid w)
 rw [hL]
 have hc1 : (L : Int) ≤ c := by have := hf.len; omega
 have hc3 : (c : Int) ≤ 9223372036854775807 := by have := hf.len; unfold maxLen at this; omega
 unfold Cfg.laid at hmk hW
 clear hi hN hf hl hin hM0 hL
 go_enter Tryz.func26, Tryz.ntmps26
 go_wp2_with fail
 rw [← hW, ← hC, ← hM]
 clear hW hC hmk hM
 go_loopw [18] (fun i wr => ∃ j : Nat, j ≤ L ∧ i = .int .i64 j ∧ ∃ R, TdI w x C N M a c fs R wr ∧ R.map Tr.k3 = (fs.take j).map Fd.k3 ∧ ∀ f ∈ fs.take j, f.ok x) (fun i _ => L - (intOf i).toNat)
 case atStart => exact ⟨0, by omega, rfl, [], HI.out, by simp, fun f hf => (by simp at hf)⟩
 case round =>
  obtain ⟨j, hj, rfl, R, hI, hR, hok⟩ := hrel
  by_cases hlt : j < L
  ·
   obtain ⟨f, hy⟩ : ∃ y, fs[j]? = some y := ⟨_, List.getElem?_eq_getElem (by have := HS.out.1; omega)⟩
   obtain ⟨g1, o1, rfl, hg1⟩ := hI.fin.seg.at hy
   have y0 := hg1 0 _ rfl
   rw [Nat.add_zero] at y0
   have y1 := hg1 1 _ rfl
   have y2 := hg1 2 _ rfl
   have hfi := hI.fin.each f (List.mem_of_getElem? hy)
   have HK : Hid (TdI w x C N M (some ⟨g1, o1, none⟩) c fs R wr ∧ R.map Tr.k3 = (fs.take j).map Fd.k3 ∧ (∀ f ∈ fs.take j, f.ok x) ∧ fs[j]? = some f) := ⟨hI, hR, hok, hy⟩
   obtain ⟨B, hB⟩ : ∃ B, B = wr.heap.size := ⟨_, rfl⟩
   obtain ⟨W1, hW1⟩ : ∃ W1, W1 = wr.alloc (.cells #[.int .i64 f.p, .int .i64 f.e, .slice f.a f.ws.length f.c] 59) := ⟨_, rfl⟩
   have HB : Hid (Keeps (fun _ => False) wr W1 ∧ Blk W1 B f.vs 59) := by rw [hW1, hB]; exact ⟨(Keeps.refl _ _).alloc _, Blk.new _ _ _⟩
   have HC : Hid (Calls Tryz.prog 53 #[.agg #[.int .i64 f.p, .int .i64 f.e, .slice f.a f.ws.length f.c]] W1 fun e w' => e = .returned (kv f.e f.p) ∧ Keeps (fun _ => False) W1 w') := momentOf_any f W1
   clear hI hR hok hy hg1
   go_upto_region 5 with fail
   rw [← hW1, ← hB]
   clear hW1 hB y0 y1 y2
   have b0 := HB.out.2.cell (i := 0) rfl
   have b1 := HB.out.2.cell (i := 1) rfl
   have b2 := HB.out.2.cell (i := 2) rfl
   go_wp2_with fail
   refine HC.out.mono ?_
   rintro e w2 ⟨rfl, hK2⟩
   have HB2 : Hid (Blk w2 B f.vs 59 ∧ Keeps (fun _ => False) W1 w2 ∧ TdI w x C N M (some ⟨g1, o1, none⟩) c fs R w2) := ⟨HB.out.2.kept hK2 fun h => h, hK2, HK.out.1.kept (HB.out.1.trans hK2 fun _ _ h => h)⟩
   clear hK2 HC b0 b1 b2
   have b0 := HB2.out.1.cell (i := 0) rfl
   have b1 := HB2.out.1.cell (i := 1) rfl
   have b2 := HB2.out.1.cell (i := 2) rfl
   obtain ⟨kl, hkl⟩ := key73 f.e f.p hfi.e hfi.p
   by_cases hdup : f.key ∈ (fs.take j).map Fd.key
   ·
    obtain ⟨v, hv⟩ := is_key HK.out.2.1 hdup
    have HL : Hid ((Instr.lookup 69 (.map (some M)) (kv f.e f.p) true).run Tryz.prog w2 = .ok (.tuple #[v, .bool true]) w2) := HB2.out.2.2.td.map.ask_some hkl hv
    have HD : Hid (f.key ∈ (fs.take j).map Fd.key) := hdup
    clear hv hdup hkl
    go_wp2_with (at_lookup; refine wpList_ask_run rfl (.tmp 23) (.tmp 25) 69 rfl (.map (some M)) (kv f.e f.p) (.tuple #[v, .bool true]) rfl rfl HL.out ?_)
    go_ret2
    refine ⟨HB2.out.2.2.one.keeps, .inl ⟨fun hm => ?_, rfl⟩⟩
    exact dup_take HK.out.2.2.2 HD.out hm.2
   ·
    have HL : Hid ((Instr.lookup 69 (.map (some M)) (kv f.e f.p) true).run Tryz.prog w2 = .ok (.tuple #[.slice none 0 0, .bool false]) w2) := HB2.out.2.2.td.map.ask_none hkl (not_key HK.out.2.1 hdup)
    have HD : Hid (f.key ∉ (fs.take j).map Fd.key ∧ keyOf Tryz.prog 73 (kv f.e f.p) = some kl) := ⟨hdup, hkl⟩
    clear hdup hkl
    obtain ⟨q0, q1, q2, q3, q4, q5, q6⟩ := HB2.out.2.2.one.cells
    by_cases hfo : f.ok x
    ·
     have HC : Hid (Calls Tryz.prog 54 #[x.v, .agg #[.int .i64 f.p, .int .i64 f.e, .slice f.a f.ws.length f.c]] w2 (MbP w2 true)) := mayBe_yes x f w2 N HB2.out.2.2.one.cin HB2.out.2.2.one.nn hfo
     have HF : Hid (f.ok x) := hfo
     clear hfo
     go_wp2_with (at_lookup; refine wpList_ask_run rfl (.tmp 23) (.tmp 25) 69 rfl (.map (some M)) (kv f.e f.p) (.tuple #[.slice none 0 0, .bool false]) rfl rfl HL.out ?_)
     refine HC.out.mono ?_
     rintro e w3 ⟨rfl, hK3⟩
     have HB3 : Hid (Blk w3 B f.vs 59 ∧ TdI w x C N M (some ⟨g1, o1, none⟩) c fs R w3) := ⟨HB2.out.1.kept hK3 fun h => h, HB2.out.2.2.kept hK3⟩
     clear hK3 HC b0 b1 b2 q0 q1 q2 q3 q4 q5 q6 HL
     have b0 := HB3.out.1.cell (i := 0) rfl
     have b1 := HB3.out.1.cell (i := 1) rfl
     have b2 := HB3.out.1.cell (i := 2) rfl
     have HC : Hid (∀ w', Keeps (fun _ => False) w3 w' → Calls Tryz.prog 53 #[.agg #[.int .i64 f.p, .int .i64 f.e, .slice f.a f.ws.length f.c]] w' fun e w'' => e = .returned (kv f.e f.p) ∧ Keeps (fun _ => False) w3 w'') := fun w' hK => (momentOf_any f w').mono fun _ _ h => ⟨h.1, hK.trans h.2 fun _ _ h => h⟩
     have HS3 : Hid (∀ w', Keeps (fun _ => False) w3 w' → w'.cell? ⟨B, 0, none⟩ = some (.int .i64 f.p) ∧ w'.cell? ⟨B, 1, none⟩ = some (.int .i64 f.e) ∧ w'.cell? ⟨B, 2, none⟩ = some (.slice f.a f.ws.length f.c)) := fun w' hK => ⟨(HB3.out.1.kept hK fun h => h).cell rfl, (HB3.out.1.kept hK fun h => h).cell rfl, (HB3.out.1.kept hK fun h => h).cell rfl⟩
     have HCp : Hid (∀ w', Keeps (fun _ => False) w3 w' → Calls Tryz.prog 46 #[.slice f.a f.ws.length f.c] w' fun e w'' => e = .returned (.slice (some ⟨w'.heap.size, 0, none⟩) f.ws.length f.ws.length) ∧ Blk w'' w'.heap.size (wvs f.ws) 27 ∧ Keeps (fun _ => False) w3 w'') := fun w' hK =>
      (copied_any f.a f.c f.ws w' (((HB3.out.2.kept hK).fin.each f (List.mem_of_getElem? HK.out.2.2.2)).seg) (ok_len HF.out HS.out.2.1)).mono fun _ _ h => ⟨h.1, h.2.1, hK.trans h.2.2 fun _ _ h => h⟩
     have HCu : Hid (∀ w4 w5 : World, Keeps (fun _ => False) w3 w4 → Blk w5 w4.heap.size (wvs f.ws) 27 → Keeps (fun _ => False) w3 w5 → ∃ w6, (Instr.mapUpdate 69 (.map (some M)) (kv f.e f.p) (.slice (some ⟨w4.heap.size, 0, none⟩) f.ws.length f.ws.length)).run Tryz.prog w5 = .ok () w6 ∧ Hid (TdI w x C N M (some ⟨g1, o1, none⟩) c fs (R ++ [⟨f.e, f.p, w4.heap.size, f.ws⟩]) w6 ∧
       w6.cell? ⟨B, 0, none⟩ = some (.int .i64 f.p) ∧ w6.cell? ⟨B, 1, none⟩ = some (.int .i64 f.e) ∧ w6.cell? ⟨B, 2, none⟩ = some (.slice f.a f.ws.length f.c))) := by
      intro w4 w5 hK4 hb5 hK5
      have hI5 := HB3.out.2.kept hK5
      have hb := HB3.out.1.kept hK5 fun h => h
      obtain ⟨w6, hr, hm6, hK6⟩ := hI5.td.map.store law73 under69 (v := .slice (some ⟨w4.heap.size, 0, none⟩) f.ws.length f.ws.length) HD.out.2 (by have h1 := congrArg List.length HK.out.2.1; have h2 := HS.out.2.2; have h3 := HS.out.1; simp at h1 ⊢; unfold maxLen; omega) (not_key HK.out.2.1 HD.out.1)
      have hsz : w.heap.size ≤ w4.heap.size := (HB3.out.2.one.keeps.trans hK4 fun _ _ h => h).size
      have hlo := hI5.td.lom
      refine ⟨w6, hr, ⟨hI5.one.kept' hK6 (fun e => hI5.td.map.ne hI5.one.cfg e) (fun k e => ?_) (fun k e => by rw [e]; exact hlo), hI5.fin.kept hK6 fun k e => ?_, ⟨?_, ?_, hlo⟩⟩, ?_⟩
      ·
       rw [e]; exact Nat.le_trans hI5.one.n hlo
      ·
       rw [e]; exact Nat.le_trans hI5.one.n hlo
      ·
       refine hm6.perm ?_
       rw [List.map_append]
       exact (List.perm_append_singleton _ _).symm
      ·
       intro r hr
       rcases List.mem_append.1 hr with h | h
       ·
        exact ⟨(hI5.td.blk r h).1.kept hK6 fun e => hI5.td.map.ne (hI5.td.blk r h).1 e, (hI5.td.blk r h).2⟩
       ·
        rw [List.mem_singleton.1 h]; exact ⟨hb5.kept hK6 fun e => hI5.td.map.ne hb5 e, hsz⟩
      ·
       have h6 := hb.kept hK6 fun e => hI5.td.map.ne hb e
       exact ⟨h6.cell rfl, h6.cell rfl, h6.cell rfl⟩
     clear b0 b1 b2
     go_upto_region 8 with fail
     refine wp_region_held_drew (S := (fun w' => w'.cell? ⟨B, 0, none⟩ = some (.int .i64 f.p) ∧ w'.cell? ⟨B, 1, none⟩ = some (.int .i64 f.e) ∧ w'.cell? ⟨B, 2, none⟩ = some (.slice f.a f.ws.length f.c))) Tryz.mixd (HS3.out _ (Keeps.refl _ w3).drew) (fun hHeld => ?_)
     simp only [List.size_toArray, List.length_cons, List.length_nil, Nat.reduceAdd, Array.replicate_succ, Array.replicate_zero, List.push_toArray, List.nil_append, List.cons_append]
     refine tk 0 (.map (some M)) hHeld ?_
     simp only [Act.put, s1, s2, s3]
     refine tk 1 (.agg #[.int .i64 f.p, .int .i64 f.e, .slice f.a f.ws.length f.c]) hHeld ?_
     simp only [Act.put, s1, s2, s3]
     refine tk 3 (.pointer (some ⟨B, 2, none⟩)) hHeld ?_
     simp only [Act.put, s1, s2, s3]
     refine tk 4 (.slice f.a f.ws.length f.c) hHeld ?_
     simp only [Act.put, s1, s2, s3]
     refine wpAnyH_ready (rs := [2]) (by kernel_rfl) (by simp) ?_
     refine AllReadyH.cons (o := ⟨some 38, .call ⟨.value (.func 53), #[.tmp 37], #[59]⟩, 73, "feeds.go:24", #[⟨1, .data⟩], none⟩) rfl (fun Kq hK => ?_) AllReadyH.nil
     go_simp
     refine (HC.out _ (Keeps.refl _ w3).drew).mono ?_
     rintro e w4 ⟨rfl, hK4⟩
     refine hK _ _ (HS3.out w4 hK4) (fun hHeld => ?_)
     simp only [Act.put, s1, s2, s3]
     refine wpAnyH_ready (rs := [5]) (by kernel_rfl) (by simp) ?_
     refine AllReadyH.cons (o := ⟨some 41, .call ⟨.value (.func 46), #[.tmp 40], #[57]⟩, 57, "feeds.go:24", #[⟨4, .data⟩, ⟨2, .chain⟩], none⟩) rfl (fun Kq hK => ?_) AllReadyH.nil
     go_simp
     refine (HCp.out w4 hK4).mono ?_
     rintro e w5 ⟨rfl, hb5, hK5⟩
     refine hK _ _ (HS3.out w5 hK5) (fun hHeld => ?_)
     obtain ⟨w6, hu, HI6⟩ := HCu.out w4 w5 hK4 hb5 hK5
     simp only [Act.put, s1, s2, s3]
     refine wpAnyH_ready (rs := [6]) (by kernel_rfl) (by simp) ?_
     refine AllReadyH.cons (o := ⟨none, .mapUpdate 69 (.tmp 36) (.tmp 38) (.tmp 41), 0, "feeds.go:24", #[⟨0, .data⟩, ⟨2, .data⟩, ⟨5, .data⟩, ⟨5, .chain⟩, ⟨0, .phase⟩, ⟨1, .phase⟩, ⟨2, .phase⟩, ⟨3, .phase⟩, ⟨4, .phase⟩, ⟨5, .phase⟩], none⟩) rfl (fun Kq hK => ?_) AllReadyH.nil
     go_simp
     refine hK _ _ HI6.out.2 (fun hHeld => ?_)
     simp only [Act.put, s1, s2, s3]
     refine wpAnyH_done (by kernel_rfl) ?_ _
     clear hHeld
     go_wp2
     go_roundw
     case rel =>
      refine ⟨j + 1, by omega, by go_num, _, HI6.out.1, ?_, ?_⟩
      ·
       rw [List.take_add_one, HK.out.2.2.2, List.map_append, List.map_append, HK.out.2.1]; rfl
      ·
       intro f' hf'
       rw [List.take_add_one, HK.out.2.2.2] at hf'
       rcases List.mem_append.1 hf' with h | h
       ·
        exact HK.out.2.2.1 f' h
       ·
        simp at h; rw [h]; exact HF.out
     case measure => simp [intOf]; omega
    ·
     have HC : Hid (Calls Tryz.prog 54 #[x.v, .agg #[.int .i64 f.p, .int .i64 f.e, .slice f.a f.ws.length f.c]] w2 (MbP w2 false)) := mayBe_no x f w2 N HB2.out.2.2.one.cin HB2.out.2.2.one.nn hfo
     have HF : Hid (¬ f.ok x) := hfo
     clear hfo
     go_wp2_with (at_lookup; refine wpList_ask_run rfl (.tmp 23) (.tmp 25) 69 rfl (.map (some M)) (kv f.e f.p) (.tuple #[.slice none 0 0, .bool false]) rfl rfl HL.out ?_)
     refine HC.out.mono ?_
     rintro e w3 ⟨rfl, hK3⟩
     have HK3 : Hid (Keeps (fun _ => False) w2 w3) := hK3
     clear hK3 HC b0 b1 b2 q0 q1 q2 q3 q4 q5 q6 HL
     go_wp2_with fail
     go_ret2
     exact ⟨HB2.out.2.2.one.keeps.trans HK3.out fun _ _ h => h, .inl ⟨fun hm => HF.out (hm.1 f (List.mem_of_getElem? HK.out.2.2.2)), rfl⟩⟩
  ·
   obtain rfl : j = L := by omega
   rw [List.take_of_length_le (by have := HS.out.1; omega)] at hR hok
   have HK : Hid (TdI w x C N M a c fs R wr ∧ R.map Tr.k3 = fs.map Fd.k3 ∧ MayF x fs) := ⟨hI, hR, hok, k3_nodup hR hI.td.map⟩
   clear hI hR hok hj hlt HI
   go_wp2_with fail
   go_loopw [45] (fun i wr => ∃ k : Nat, k ≤ j ∧ i = .int .i64 k ∧ TdI w x C N M a c fs ((R.take k).filter Tr.has ++ R.drop k) wr) (fun i _ => j - (intOf i).toNat)
   case atStart => exact ⟨0, by omega, rfl, by simpa using HK.out.1⟩
   case round =>
    obtain ⟨k, hk, rfl, hI⟩ := hrel
    by_cases hlt : k < j
    ·
     obtain ⟨f, hy⟩ : ∃ y, fs[k]? = some y := ⟨_, List.getElem?_eq_getElem (by have := HS.out.1; omega)⟩
     obtain ⟨r, hr, hk3⟩ := k3_at HK.out.2.1 hy
     obtain ⟨g1, o1, rfl, hg1⟩ := hI.fin.seg.at hy
     have y0 := hg1 0 _ rfl
     rw [Nat.add_zero] at y0
     have y1 := hg1 1 _ rfl
     have y2 := hg1 2 _ rfl
     have hfi := hI.fin.each f (List.mem_of_getElem? hy)
     obtain ⟨kl, hkl⟩ := key73 f.e f.p hfi.e hfi.p
     have HI : Hid (TdI w x C N M (some ⟨g1, o1, none⟩) c fs ((R.take k).filter Tr.has ++ R.drop k) wr ∧ R[k]? = some r ∧ r.k3 = f.k3 ∧ keyOf Tryz.prog 73 (kv f.e f.p) = some kl) := ⟨hI, hr, hk3, hkl⟩
     obtain ⟨B, hB⟩ : ∃ B, B = wr.heap.size := ⟨_, rfl⟩
     obtain ⟨W1, hW1⟩ : ∃ W1, W1 = wr.alloc (.cells #[.int .i64 f.p, .int .i64 f.e, .slice f.a f.ws.length f.c] 59) := ⟨_, rfl⟩
     have HB : Hid (Keeps (fun _ => False) wr W1 ∧ Blk W1 B f.vs 59) := by rw [hW1, hB]; exact ⟨(Keeps.refl _ _).alloc _, Blk.new _ _ _⟩
     clear hI hr hk3 hy hg1 hkl hfi
     go_upto_region 13 with fail
     rw [← hW1, ← hB]
     clear hW1 hB y0 y1 y2
     have b0 := HB.out.2.cell (i := 0) rfl
     have b1 := HB.out.2.cell (i := 1) rfl
     have b2 := HB.out.2.cell (i := 2) rfl
     by_cases h0 : f.ws.length = 0
     ·
      have HC : Hid (Calls Tryz.prog 53 #[.agg #[.int .i64 f.p, .int .i64 f.e, .slice f.a f.ws.length f.c]] W1 fun e w' => e = .returned (kv f.e f.p) ∧ Keeps (fun _ => False) W1 w') := momentOf_any f W1
      have HZ : Hid (f.ws.length = 0) := h0
      obtain ⟨n, hn⟩ : ∃ n, f.ws.length = n := ⟨_, rfl⟩
      rw [hn] at b2 HC h0
      have hz : (n : Int) = 0 := by omega
      clear h0 hn
      go_wp2_with fail
      refine HC.out.mono ?_
      rintro e w2 ⟨rfl, hK2⟩
      have hI2 := HI.out.1.kept (HB.out.1.trans hK2 fun _ _ h => h)
      obtain ⟨w3, hr3, hm3, hK3⟩ := (drop_form hI2.td.map HI.out.2.1 HI.out.2.2.1).drop law73 under69 HI.out.2.2.2
      have HD : Hid (∀ ty, (Builtin.delete_ #[69, 73] ty #[.map (some M), kv f.e f.p]).run Tryz.prog w2 = .ok (.tuple #[]) w3) := hr3
      have HI3 : Hid (TdI w x C N M (some ⟨g1, o1, none⟩) c fs ((R.take (k + 1)).filter Tr.has ++ R.drop (k + 1)) w3) := by
       have hlo := hI2.td.lom
       rw [take_no HI.out.2.1 (by rw [← k3_ws HI.out.2.2.1] at HZ; exact List.eq_nil_of_length_eq_zero HZ.out)]
       refine ⟨hI2.one.kept' hK3 (fun e => hI2.td.map.ne hI2.one.cfg e) (fun k e => by rw [e]; exact Nat.le_trans hI2.one.n hlo) (fun k e => by rw [e]; exact hlo), hI2.fin.kept hK3 fun k e => by rw [e]; exact Nat.le_trans hI2.one.n hlo, ⟨by rw [List.map_append]; exact hm3, fun q hq => ?_, hlo⟩⟩
       have hq' : q ∈ (R.take k).filter Tr.has ++ R.drop k := by
        rcases List.mem_append.1 hq with h | h
        ·
         exact List.mem_append_left _ h
        ·
         exact List.mem_append_right _ (drop_mem h)
       exact ⟨(hI2.td.blk q hq').1.kept hK3 fun e => hI2.td.map.ne (hI2.td.blk q hq').1 e, (hI2.td.blk q hq').2⟩
      clear hI2 hr3 hm3 hK3 hK2 HC b0 b1 b2
      go_wp2_with (at_delete; refine wpList_delete_run rfl (.tmp 53) (.tmp 55) 69 73 rfl (.map (some M)) (kv f.e f.p) (.tuple #[]) rfl rfl HD.out ?_; refine Hid.out ?_)
      unfold Hid
      go_wp2
      go_roundw
      case rel => exact ⟨k + 1, by omega, by go_num, HI3.out⟩
      case measure => simp [intOf]; omega
     ·
      have HI3 : Hid (TdI w x C N M (some ⟨g1, o1, none⟩) c fs ((R.take (k + 1)).filter Tr.has ++ R.drop (k + 1)) W1) := by
       rw [take_yes HI.out.2.1 (fun e => h0 (by rw [← k3_ws HI.out.2.2.1, e]; rfl))]
       exact HI.out.1.kept HB.out.1
      obtain ⟨n, hn⟩ : ∃ n, f.ws.length = n := ⟨_, rfl⟩
      rw [hn] at b2 h0
      have hz : ¬ (n : Int) = 0 := by omega
      clear hn
      go_wp2
      go_roundw
      case rel => exact ⟨k + 1, by omega, by go_num, HI3.out⟩
      case measure => simp [intOf]; omega
    ·
     obtain rfl : k = j := by omega
     have hRl : R.length = k := by have h1 := congrArg List.length HK.out.2.1; have h2 := HS.out.1; rw [List.length_map, List.length_map] at h1; omega
     rw [List.take_of_length_le (by omega), List.drop_eq_nil_of_le (by omega), List.append_nil] at hI
     have HI : Hid (TdI w x C N M a c fs (R.filter Tr.has) wr) := hI
     clear hI hRl
     go_wp2
     go_ret2
     exact ⟨HI.out.one.keeps, .inr ⟨HK.out.2.2, M, _, rfl, HI.out.td, k3_filter HK.out.2.1⟩⟩
end Go.Proofs.YtfbapgcopidbpaaGreat
namespace Go.Proofs.YtfbapgcopidbpaaGreat
open Go.RowKit Go.Shelf
open Mq (SegW wvs wvs_length wvs_get run_make_words run_copy_wb segW_of_blk)
set_option linter.unusedVariables false
set_option maxRecDepth 6000
set_option linter.unusedSimpArgs false
theorem region_tail {id : Nat} {Q : Exit → Act → World → Prop} {a : Act} {w : World} {l : List Oper} (n : Nat) (hB : Region.lexTailB .any l.toArray n = true)
  (h : wpStill Tryz.prog l.toArray (w.drewN 1) (fun a' => wpList Tryz.prog l.toArray Q (l.drop n) a' (w.drewN 1)) (l.take n) a) : (Code.region id l.toArray true).wp Tryz.prog Q a w :=
 wp_region_still_tail n Tryz.mixed hB h
theorem Tryz.info76 : (Tryz.prog.info? 76).map (fun i => (i.zero, i.size, i.bytes)) = some (some (.agg #[.int .i64 0, .int .u32 0]), 2, 16) := by kernel_rfl
def zEar (n : Nat) : List Value := (madeCells (Value.agg #[.int .i64 0, .int .u32 0]).cells (n * 2)).toList
theorem zEar_len (n : Nat) : (zEar n).length = n * 2 := by simp [zEar, madeCells]
theorem run_make_ears (w : World) (n : Nat) (hn : n ≤ 1000) :
  (Instr.makeSlice 67 (.int .i64 n) (.int .i64 n)).run Tryz.prog w = .ok (.slice (some ⟨w.heap.size, 0, none⟩) n n) (w.alloc (.cells (zEar n).toArray 76)) := by
 obtain ⟨i0, hi, hz0, hz1, hz2⟩ := info_parts Tryz.info76
 have h := run_make (P := Tryz.prog) w 67 76 i0 _ Tryz.underlying67 hi hz0 .i64 .i64 n n (by omega) (by omega) (by rw [hz2]; omega) (by omega)
 rw [Int.toNat_natCast, hz1] at h
 rw [h]
 simp [zEar]
structure Ears (x : Cfg) (F : Nat → Int) (n : Nat) (l : List Value) : Prop where
 len : l.length = x.ps.length * 2
 each : ∀ i P, i < n → x.ps[i]? = some P → l[i * 2]? = some (.int .i64 (F i + 4)) ∧ l[i * 2 + 1]? = some (.int .u32 P.outputs)
theorem Ears.next {x : Cfg} {F : Nat → Int} {n : Nat} {l : List Value} (h : Ears x F n l) {P : Par} (hP : x.ps[n]? = some P) : Ears x F (n + 1) ((l.set (n * 2) (.int .i64 (F n + 4))).set (n * 2 + 1) (.int .u32 P.outputs)) := by
 have hn := (List.getElem?_eq_some_iff.1 hP).1
 refine ⟨by simp [h.len], fun i Q hi hQ => ?_⟩
 by_cases e : i = n
 ·
  subst e
  rw [hP] at hQ
  cases hQ
  constructor
  ·
   rw [List.getElem?_set_ne (by omega), List.getElem?_set_self (by rw [h.len]; omega)]
  ·
   rw [List.getElem?_set_self (by rw [List.length_set, h.len]; omega)]
 ·
  rw [List.getElem?_set_ne (by omega), List.getElem?_set_ne (by omega), List.getElem?_set_ne (by omega), List.getElem?_set_ne (by omega)]
  exact h.each i Q (by omega) hQ
def EarP (x : Cfg) (F : Nat → Int) (w : World) (e : Ending) (w' : World) : Prop :=
 Keeps (fun _ => False) w w' ∧ ∃ E l, e = .returned (.slice (some ⟨E, 0, none⟩) x.ps.length x.ps.length) ∧ w.heap.size ≤ E ∧ Blk w' E l 76 ∧ Ears x F x.ps.length l
structure ErI (w : World) (x : Cfg) (C N A b1 : Nat) (lv : List Value) (F : Nat → Int) (E n : Nat) (wr : World) : Prop where
 one : One w x C N wr
 lay : Blk wr A lv 35
 st : ∀ i, i < x.ps.length → wr.cell? ⟨b1, i * 5 + 2, none⟩ = some (.int .i64 (F i))
 lo : w.heap.size ≤ E ∧ E ≠ C ∧ E ≠ A ∧ b1 < w.heap.size
 ears : ∃ l, Blk wr E l 76 ∧ Ears x F n l
theorem ErI.kept {w : World} {x : Cfg} {C N A b1 : Nat} {lv : List Value} {F : Nat → Int} {E n : Nat} {wr w' : World} (h : ErI w x C N A b1 lv F E n wr) (hK : Keeps (fun _ => False) wr w') : ErI w x C N A b1 lv F E n w' :=
 ⟨h.one.kept hK, h.lay.kept hK fun h => h, fun i hi => by
  rw [World.cell?_of_block (w := wr) (hK.block b1 (Nat.lt_of_lt_of_le h.lo.2.2.2 h.one.keeps.size) fun h => h)]; exact h.st i hi, h.lo, h.ears.elim fun l hl => ⟨l, hl.1.kept hK fun h => h, hl.2⟩⟩
set_option maxHeartbeats 4000000 in
theorem ears_any (x : Cfg) (b1 : Nat) (va vb vc : Int) (a2 : Option Addr) (n2 c2 : Nat) (F : Nat → Int) (w : World) (N : Nat) (hi : x.In w N) (hN : N ≤ w.heap.size) (hp : x.ps.length ≤ 8) (hp1 : 1 ≤ x.ps.length)
  (hs : ∀ i, i < x.ps.length → w.cell? ⟨b1, i * 5 + 2, none⟩ = some (.int .i64 (F i)) ∧ 0 ≤ F i ∧ F i ≤ 1000000) (ho : ∀ P ∈ x.ps, 0 ≤ P.outputs ∧ P.outputs ≤ 1000000) :
  Calls Tryz.prog 27 #[x.v, .agg #[.int .i64 va, .slice (some ⟨b1, 0, none⟩) x.ps.length x.ps.length, .slice a2 n2 c2, .int .i64 vc]] w (EarP x F w) := by
 have hb1 : b1 < w.heap.size := World.block_lt_of_cell? w ⟨b1, 0 * 5 + 2, none⟩ (hs 0 (by omega)).1
 obtain ⟨W0, hW0⟩ : ∃ W, W = (x.laid w).alloc (.cells #[.int .i64 va, .slice (some ⟨b1, 0, none⟩) x.ps.length x.ps.length, .slice a2 n2 c2, .int .i64 vc] 35) := ⟨_, rfl⟩
 obtain ⟨C, hC⟩ : ∃ C, C = w.heap.size := ⟨_, rfl⟩
 obtain ⟨L, hL⟩ : ∃ L, x.ps.length = L := ⟨_, rfl⟩
 obtain ⟨W, hW⟩ : ∃ W, W = W0.alloc (.cells (zEar L).toArray 76) := ⟨_, rfl⟩
 have hz0 : W0.heap.size = C + 2 := by rw [hW0, hC]; simp [Cfg.laid]
 have hmk := run_make_ears W0 L (by omega)
 rw [hz0, ← hW] at hmk
 have HI : Hid (ErI w x C N (C + 1) b1 [.int .i64 va, .slice (some ⟨b1, 0, none⟩) L L, .slice a2 n2 c2, .int .i64 vc] F (C + 2) 0 W) := by
  have hK : Keeps (fun _ => False) w W := by rw [hW, hW0]; exact (((Keeps.refl _ _).alloc _).alloc _).alloc _
  refine ⟨?_, ?_, fun i hi => ?_, ⟨by omega, by omega, by omega, hb1⟩, zEar L, ?_, ⟨by rw [zEar_len, hL], fun i P h => absurd h (by omega)⟩⟩
  ·
   rw [hW, hW0, hC]; exact ((One.mk' hi hN).kept ((Keeps.refl _ _).alloc _)).kept ((Keeps.refl _ _).alloc _)
  ·
   rw [hW]
   have := Blk.new (x.laid w) #[.int .i64 va, .slice (some ⟨b1, 0, none⟩) x.ps.length x.ps.length, .slice a2 n2 c2, .int .i64 vc] 35
   rw [← hW0, hL] at this
   have e : (x.laid w).heap.size = C + 1 := by rw [hC]; simp [Cfg.laid]
   rw [e] at this
   exact this.alloc _
  ·
   rw [World.cell?_of_block (w := w) (hK.block b1 hb1 fun h => h)]; exact (hs i hi).1
  ·
   rw [hW, ← hz0]; exact Blk.new W0 (zEar L).toArray 76
 have HS : Hid (x.ps.length = L ∧ L ≤ 8 ∧ (∀ i, i < x.ps.length → 0 ≤ F i ∧ F i ≤ 1000000) ∧ (∀ P ∈ x.ps, 0 ≤ P.outputs ∧ P.outputs ≤ 1000000)) := ⟨hL, by omega, fun i hi => (hs i hi).2, ho⟩
 have hk0 : W0.cell? ⟨C, 5, none⟩ = some (.slice x.pa L x.pc) := by
  have h1 : One w x C N W0 := by rw [hW0, hC]; exact (One.mk' hi hN).kept ((Keeps.refl _ _).alloc _)
  have := h1.cells.2.2.2.2.2.1
  rw [hL] at this
  exact this
 obtain ⟨pa, hpa⟩ : ∃ pa, pa = x.pa := ⟨_, rfl⟩
 rw [← hpa] at hk0
 have hpc : L ≤ x.pc ∧ x.pc ≤ maxLen := by have := hi.plen; rw [hL] at this; exact this
 rw [hL]
 unfold Cfg.laid at hW0
 simp only [hL] at hW0
 clear hi hN hp hp1 hs ho hb1 hz0
 go_enter Tryz.func27, Tryz.ntmps27
 go_upto_region 1 with fail
 rw [← hW0, ← hC]
 clear hW0 hC hW hL
 have hk1 : W.cell? ⟨C, 5, none⟩ = some (.slice pa L x.pc) := by
  have := HI.out.one.cells.2.2.2.2.2.1
  rw [HS.out.1, ← hpa] at this
  exact this
 have HP : Hid (pa = x.pa) := hpa
 have hpc1 : (L : Int) ≤ x.pc := by omega
 have hpc2 : (x.pc : Int) ≤ 9223372036854775807 := by have := hpc.2; unfold maxLen at this; omega
 clear hpa hpc
 go_wp2_with fail
 clear hk0 hk1 hmk
 go_loopw [15] (fun i wr => ∃ j : Nat, j ≤ L ∧ i = .int .i64 j ∧ ErI w x C N (C + 1) b1 [.int .i64 va, .slice (some ⟨b1, 0, none⟩) L L, .slice a2 n2 c2, .int .i64 vc] F (C + 2) j wr) (fun i _ => L - (intOf i).toNat)
 case atStart => exact ⟨0, by omega, rfl, HI.out⟩
 case round =>
  obtain ⟨j, hj, rfl, hI⟩ := hrel
  clear HI
  by_cases hlt : j < L
  ·
   obtain ⟨P, hP⟩ : ∃ P, x.ps[j]? = some P := ⟨_, List.getElem?_eq_getElem (by have := HS.out.1; omega)⟩
   obtain ⟨g1, o1, hpa, hg1⟩ := hI.one.cin.par hP
   obtain ⟨W1, hW1⟩ : ∃ W1, W1 = wr.alloc (.cells P.vs.toArray 55) := ⟨_, rfl⟩
   have hI1 : ErI w x C N (C + 1) b1 [.int .i64 va, .slice (some ⟨b1, 0, none⟩) L L, .slice a2 n2 c2, .int .i64 vc] F (C + 2) j W1 := by rw [hW1]; exact hI.kept ((Keeps.refl _ _).alloc _)
   obtain ⟨B, hB⟩ : ∃ B, B = wr.heap.size := ⟨_, rfl⟩
   have HB : Hid (Blk W1 B P.vs 55) := by rw [hW1, hB]; exact Blk.new _ _ _
   obtain ⟨l, hl, hE⟩ := hI1.ears
   have HK : Hid (ErI w x C N (C + 1) b1 [.int .i64 va, .slice (some ⟨b1, 0, none⟩) L L, .slice a2 n2 c2, .int .i64 vc] F (C + 2) j W1 ∧ x.ps[j]? = some P ∧ Blk W1 (C + 2) l 76 ∧ Ears x F j l) := ⟨hI1, hP, hl, hE⟩
   rw [← HP.out] at hpa
   subst hpa
   obtain ⟨nm, en, ac, re, ip, op, ra, rc, rs, pp, pq, ps⟩ := P
   have y0 := hg1 0 _ rfl
   rw [Nat.add_zero] at y0
   have y1 := hg1 1 _ rfl
   have y2 := hg1 2 _ rfl
   have y3 := hg1 3 _ rfl
   have y4 := hg1 4 _ rfl
   have y5 := hg1 5 _ rfl
   have y6 := hg1 6 _ rfl
   have y7 := hg1 7 _ rfl
   dsimp only at y0 y1 y2 y3 y4 y5 y6 y7
   simp only [Par.vs] at hW1
   clear hI hI1 hP hl hE hg1
   go_upto_region 5 with fail
   rw [← hW1, ← hB]
   clear hW1 hB y0 y1 y2 y3 y4 y5 y6 y7
   have b5 := HB.out.cell (i := 5) rfl
   have l1 := HK.out.1.lay.cell (i := 1) rfl
   have s2 := HK.out.1.st j (by have := HS.out.1; omega)
   have hF := HS.out.2.2.1 j (by have := HS.out.1; omega)
   have hO := HS.out.2.2.2 _ (List.mem_of_getElem? HK.out.2.1)
   dsimp only at b5 hO
   have hq : IntKind.i64.wrap (F j + 4) = F j + 4 := by rw [IntKind.wrap_i64]; omega
   have hu : op % 4294967296 = op := by omega
   have hll : j * 2 + 1 < l.length := by rw [HK.out.2.2.2.len]; have := HS.out.1; omega
   have e0 := HK.out.2.2.1.cell (i := j * 2) (List.getElem?_eq_getElem (by omega))
   have e1 := HK.out.2.2.1.cell (i := j * 2 + 1) (List.getElem?_eq_getElem hll)
   have z0 := HK.out.2.2.1.frozen (j * 2)
   have z1 := HK.out.2.2.1.frozen (j * 2 + 1)
   refine region_tail 14 (by kernel_rfl) ?_
   simp only [List.take_succ_cons, List.take_zero, List.drop_succ_cons, List.drop_zero]
   repeat still_step
   refine wpStill_nil ?_
   go_wp2
   refine ⟨⟨j + 1, by omega, by go_num, ?_⟩, by simp [intOf]; omega⟩
   have h0 := HK.out.1.kept ((Keeps.refl _ W1).drewN 1)
   have hl0 := HK.out.2.2.1.drewN 1
   have hK : Keeps (fun b => b = C + 2) (W1.drewN 1) (((W1.drewN 1).setCell ⟨C + 2, j * 2, none⟩ (.int .i64 (F j + 4))).setCell ⟨C + 2, j * 2 + 1, none⟩ (.int .u32 op)) := ((Keeps.refl (fun b => b = C + 2) _).setCell _ _ fun _ => rfl).setCell _ _ fun _ => rfl
   have hlo := h0.lo
   refine ⟨h0.one.kept' hK (fun e => hlo.2.1 e.symm) (fun k e => by rw [e]; exact Nat.le_trans h0.one.n hlo.1) (fun k e => by rw [e]; exact hlo.1), h0.lay.kept hK (fun e => hlo.2.2.1 e.symm), fun i hi => ?_, hlo, _, (hl0.setCell _ _).setCell _ _, HK.out.2.2.2.next HK.out.2.1⟩
   rw [World.cell?_of_block (w := W1.drewN 1) (hK.block b1 (Nat.lt_of_lt_of_le hlo.2.2.2 h0.one.keeps.size) fun e => by have := hlo.1; have := hlo.2.2.2; omega)]
   exact h0.st i hi
  ·
   obtain rfl : j = L := by omega
   have HK : Hid (ErI w x C N (C + 1) b1 [.int .i64 va, .slice (some ⟨b1, 0, none⟩) j j, .slice a2 n2 c2, .int .i64 vc] F (C + 2) j wr) := hI
   clear hI
   go_wp2
   go_ret
   obtain ⟨l, h1, h2⟩ := HK.out.ears
   exact ⟨HK.out.one.keeps, C + 2, l, by rw [HS.out.1]; rfl, HK.out.lo.1, h1, by rw [HS.out.1]; exact h2⟩
end Go.Proofs.YtfbapgcopidbpaaGreat
