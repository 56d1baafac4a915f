import Derived.Test.YtjadpbkhfclldaaGreatRo
import Derived.Test.YtjadpbkhfclldaaGreatJRb
namespace Go.Proofs.YtjadpbkhfclldaaGreat
open Go.RowKit
set_option linter.unusedVariables false
set_option maxRecDepth 6000

/-! ### Lists that are one's own, each in a block of its own -/
/-- The block of a list's address. -/
def bk (a : Option Addr) : List Nat := match a with | some y => [y.block] | none => []
theorem bk_mem {a : Option Addr} {n c k : Nat} : k ∈ bk a ↔ (Value.slice a n c).ownBlock = some k := by
  cases a with
  | none => simp [bk, Value.ownBlock]
  | some y => simp [bk, Value.ownBlock]; exact eq_comm
theorem bk_of {β : Type} {a : Option Addr} {l : List β} {k : Nat} (h : k ∈ blk1 a l) : k ∈ bk a := by
  obtain ⟨_, y, rfl, rfl⟩ := blk1_mem.1 h
  simp [bk]
theorem own_ltR {w : World} {e : TypeId} {s n : Nat} {v : Value} {xs : List Value} (h : w.ownsRow 0 e s v n xs) {k : Nat} (hv : v.ownBlock = some k) : k < w.heap.size := by
  rcases h.2 with ⟨h2, _⟩ | ⟨g, cap, cur, h2, _, h3, _⟩
  · rw [h2] at hv; cases hv
  · rw [h2] at hv; cases hv
    exact (Array.getElem?_eq_some_iff.1 h3).1
/-- Two elements have no block in common. -/
def Apt {α : Type} (E : Elem α) (x y : α) : Prop := ∀ k ∈ E.bl x, k ∉ E.bl y

section
variable {α : Type} {E : Elem α}
/-- A row under way whose elements are apart. -/
structure RowD (E : Elem α) (w : World) (lo : Nat) (u : Value) (xs : List α) : Prop extends Row E w lo u xs where
  dj : xs.Pairwise (Apt E)
theorem RowD.nil (w : World) (lo : Nat) : RowD E w lo (.slice none 0 0) [] := ⟨Row.nil w lo, List.Pairwise.nil⟩
theorem RowD.kept {S : Nat → Prop} {w w' : World} {lo : Nat} {u : Value} {xs : List α} (h : RowD E w lo u xs) (hK : Keeps S w w') (hS : ∀ k, S k → k < lo) : RowD E w' lo u xs := ⟨h.toRow.kept hK hS, h.dj⟩
theorem RowD.push {w W : World} {lo : Nat} {u v' : Value} {xs : List α} {x : α} (h : RowD E w lo u xs) (hx : E.Ok w x) (hb : ∀ k ∈ E.bl x, lo ≤ k ∧ k < w.heap.size ∧ u.ownBlock ≠ some k) (hlo : lo ≤ w.heap.size)
    (hown : W.ownsRow 0 E.ety E.k v' (xs.length + 1) (xs.flatMap E.vs ++ E.vs x)) (hfr : v'.ownBlock = u.ownBlock ∨ ∃ k, v'.ownBlock = some k ∧ w.heap.size ≤ k) (hK : Keeps (fun k => some k = u.ownBlock) w W)
    (hd : ∀ y ∈ xs, ∀ k ∈ E.bl y, k ∉ E.bl x) : RowD E W lo v' (xs ++ [x]) :=
  ⟨h.toRow.push hx hb hlo hown hfr hK, List.pairwise_append.2 ⟨h.dj, List.pairwise_singleton _ _, fun y hy z hz => by
    have : z = x := by simpa using hz
    rw [this]; exact hd y hy⟩⟩

/-- A list that was read, a row of one's own. -/
structure LstR (E : Elem α) (w : World) (lo : Nat) (ad : Option Addr) (cp : Nat) (l : List α) : Prop extends Lst E w lo ad cp l where
  own : w.ownsRow 0 E.ety E.k (.slice ad l.length cp) l.length (l.flatMap E.vs)
  olo : ∀ k ∈ bk ad, lo ≤ k
  self : ∀ x ∈ l, ∀ k ∈ E.bl x, k ∉ bk ad
  dj : l.Pairwise (Apt E)
theorem LstR.olt {w : World} {lo : Nat} {ad : Option Addr} {cp : Nat} {l : List α} (h : LstR E w lo ad cp l) : ∀ k ∈ bk ad, k < w.heap.size := fun k hk => own_ltR h.own (bk_mem.1 hk)
theorem RowD.lst {w : World} {lo : Nat} {u : Value} {xs : List α} (h : RowD E w lo u xs) : ∃ ad cp, u = .slice ad xs.length cp ∧ LstR E w lo ad cp xs := by
  obtain ⟨ad, cp, rfl, hl⟩ := h.toRow.lst
  exact ⟨ad, cp, rfl, hl, h.own, fun k hk => h.low k (bk_mem.1 hk), fun x hx k hk hk2 => (h.toRow.bl x hx k hk).2.2 (bk_mem.1 hk2), h.dj⟩
theorem LstR.kept {S : Nat → Prop} {w w' : World} {lo cp : Nat} {ad : Option Addr} {l : List α} (h : LstR E w lo ad cp l) (hK : Keeps S w w') (hS : ∀ k, S k → k < lo) : LstR E w' lo ad cp l :=
  ⟨h.toLst.kept hK hS, owns_kept h.own hK fun k hk hs => by have := h.olo k (bk_mem.2 hk); have := hS k hs; omega, h.olo, h.self, h.dj⟩
theorem LstR.mono {w : World} {lo lo' cp : Nat} {ad : Option Addr} {l : List α} (h : LstR E w lo ad cp l) (hl : lo' ≤ lo) : LstR E w lo' ad cp l :=
  ⟨h.toLst.mono hl, h.own, fun k hk => Nat.le_trans hl (h.olo k hk), h.self, h.dj⟩
/-- All blocks of a list and of its elements. -/
def Lall (E : Elem α) (ad : Option Addr) (l : List α) (k : Nat) : Prop := k ∈ bk ad ∨ ∃ x ∈ l, k ∈ E.bl x
theorem LstR.range {w : World} {lo cp : Nat} {ad : Option Addr} {l : List α} (h : LstR E w lo ad cp l) {k : Nat} (hk : Lall E ad l k) : lo ≤ k ∧ k < w.heap.size := by
  rcases hk with hk | ⟨x, hx, hk⟩
  · exact ⟨h.olo k hk, h.olt k hk⟩
  · exact h.toLst.bl x hx k hk
end

structure Core.OkR (w : World) (x : Core) : Prop where
  ok : x.Ok w
  own : w.ownsRow 0 51 3 (.slice x.a x.ws.length x.c) x.ws.length (x.ws.flatMap Win.vs)
def eCoreR : Elem Core := ⟨Core.vs, 1, 43, fun _ => rfl, by decide, fun w x => x.OkR w, fun x => bk x.a, fun h hK hn =>
  ⟨eCore.kept h.ok hK fun k hk => hn k (bk_of hk), owns_kept h.own hK fun k hk hs => hn k (bk_mem.2 hk) hs⟩⟩
structure Par.OkR (w : World) (x : Par) : Prop where
  ok : x.Ok w
  rown : w.ownsRow 0 53 4 (.slice x.ra x.rs.length x.rc) x.rs.length (x.rs.flatMap Rgn.vs)
  pown : w.ownsRow 0 55 2 (.slice x.pa x.ps.length x.pc) x.ps.length (x.ps.flatMap Prt.vs)
  ne : ∀ k ∈ bk x.ra, k ∉ bk x.pa
def Par.blR (x : Par) : List Nat := bk x.ra ++ bk x.pa
def eParR : Elem Par := ⟨Par.vs, 8, 47, fun _ => rfl, by decide, fun w x => x.OkR w, fun x => x.blR, fun h hK hn =>
  ⟨ePar.kept h.ok hK fun k hk => hn k (by
      rcases List.mem_append.1 hk with hk | hk
      · exact List.mem_append_left _ (bk_of hk)
      · exact List.mem_append_right _ (bk_of hk)),
    owns_kept h.rown hK fun k hk hs => hn k (List.mem_append_left _ (bk_mem.2 hk)) hs, owns_kept h.pown hK fun k hk hs => hn k (List.mem_append_right _ (bk_mem.2 hk)) hs, h.ne⟩⟩
theorem LstR.core {w : World} {lo cp : Nat} {ad : Option Addr} {l : List Core} (h : LstR eCoreR w lo ad cp l) : Lst eCore w lo ad cp l :=
  ⟨h.seg, h.len, h.low, fun x hx => (h.ok x hx).ok, fun x hx k hk => h.toLst.bl x hx k (bk_of hk)⟩
theorem LstR.par {w : World} {lo cp : Nat} {ad : Option Addr} {l : List Par} (h : LstR eParR w lo ad cp l) : Lst ePar w lo ad cp l :=
  ⟨h.seg, h.len, h.low, fun x hx => (h.ok x hx).ok, fun x hx k hk => h.toLst.bl x hx k (by
    rcases List.mem_append.1 hk with hk | hk
    · exact List.mem_append_left _ (bk_of hk)
    · exact List.mem_append_right _ (bk_of hk))⟩
end Go.Proofs.YtjadpbkhfclldaaGreat
namespace Go.Proofs.YtjadpbkhfclldaaGreat
open Go.RowKit
set_option linter.unusedVariables false
set_option maxRecDepth 6000

set_option maxHeartbeats 2000000 in
theorem rwindow_any (b g p : Nat) (B : List UInt8) (w : World) (h : Rd w b g B p 0) :
    Calls Tryz.prog 93 #[.agg #[.pointer (some ⟨b, 0, none⟩)]] w fun e w' => ((∃ (x : Win) (q : Nat), rdWin B p = .ok (x, q) ∧ e = .returned x.v ∧ x.Fine ∧ Rd w' b g B q 0) ∨ (∃ q, rdWin B p = .error q ∧ e = gone q 110)) ∧ Keeps (· = b) w w' := by
  obtain ⟨c, hc⟩ : ∃ c, c = w.heap.size := ⟨_, rfl⟩
  have HR : Hid (Rd w b g B p 0) := h
  have hb : c ≠ b := by have := h.blk.lt; omega
  have hb1 : c + 1 ≠ b := by have := h.blk.lt; omega
  have HW : Hid (w.heap.size ≤ c) := by rw [hc]; exact Nat.le_refl _
  clear h
  go_enter Tryz.func93, Tryz.ntmps93
  go_wp2
  rw [← hc]
  obtain ⟨W, hW⟩ : ∃ W, W = (w.alloc (.cells #[.pointer (some ⟨b, 0, none⟩)] 126)).alloc (.cells #[.int .i64 0, .int .i64 0, .int .i64 0] 51) := ⟨_, rfl⟩
  have hB : Blk W c [.pointer (some ⟨b, 0, none⟩)] 126 := by rw [hW, hc]; exact (Blk.new w _ _).alloc _
  have hD : Blk W (c + 1) [.int .i64 0, .int .i64 0, .int .i64 0] 51 := by rw [hW, hc]; have := Blk.new (w.alloc (.cells #[.pointer (some ⟨b, 0, none⟩)] 126)) #[.int .i64 0, .int .i64 0, .int .i64 0] 51; simpa using this
  have hG0 : Gon w W b g B p := by rw [hW]; exact ⟨HR.out.kept (((Keeps.refl (fun _ => False) w).alloc _).alloc _) (fun e => e) (fun e => e), ((Keeps.refl _ w).alloc _).alloc _⟩
  have p0 := hB.cell (i := 0) rfl
  rw [← hW]
  have HB1 : Hid (Blk W.drew c [.pointer (some ⟨b, 0, none⟩)] 126) := hB.drew
  have HD1 : Hid (Blk W.drew (c + 1) [.int .i64 0, .int .i64 0, .int .i64 0] 51) := hD.drew
  have HG1 : Hid (Gon w W.drew b g B p) := hG0.drew
  have HC1 : Hid (rdWin B p = (rdNum B p).bind _) := rfl
  have HGB : Hid (g < c) := by rw [hc]; exact HR.out.bytes.lt
  clear hW hB hD hG0 HR hc
  refine wp_region_panicTo (fun e w' => ((∃ (x : Win) (q : Nat), rdWin B p = .ok (x, q) ∧ e = .returned x.v ∧ x.Fine ∧ Rd w' b g B q 0) ∨ (∃ q, rdWin B p = .error q ∧ e = gone q 110)) ∧ Keeps (· = b) w w') (fun c a w h1 h2 => ⟨h1, h2⟩) ?_
  go_region_held2 (fun w' => w'.cell? ⟨c, 0, none⟩ = some (.pointer (some ⟨b, 0, none⟩))) (first | exact hS | go_keep)
    (first
      | (go_at_call 76; refine (number_step HG3.out).mono ?_; rintro e w4 ⟨⟨n3, q3, hr, rfl, hG⟩ | ⟨q, hr, rfl, hK⟩, hK2⟩; rotate_left; exact ⟨rfl, .inr ⟨q, bind_err HC3.out hr, rfl⟩, hK⟩; have hS : w4.cell? ⟨c, 0, none⟩ = some (.pointer (some ⟨b, 0, none⟩)) := (HB3.out.kept hK2 hb).cell (i := 0) rfl; have HN3 : Hid (0 ≤ n3 ∧ n3 < 4294967296) := rdNum_bd hr; have HC' := bind_ok HC3.out hr; have HC4 : Hid (rdWin B p = _) := HC'; have HB4 : Hid (Blk w4 c [.pointer (some ⟨b, 0, none⟩)] 126) := HB3.out.kept hK2 hb; have HD' := HD3.out.kept hK2 hb1; have HD4 : Hid (Blk w4 (c + 1) [.int .i64 0, .int .i64 0, .int .i64 0] 51) := HD'; have HG4 : Hid (Gon w w4 b g B q3) := hG; have z0 := HD'.cell (i := 0) rfl; have f0 := HD'.frozen 0; have z1 := HD'.cell (i := 1) rfl; have f1 := HD'.frozen 1; have z2 := HD'.cell (i := 2) rfl; have f2 := HD'.frozen 2; clear hr hG hK2 HC' HD' HC3 HB3 HD3 HG3)
      | (go_at_call 76; refine (number_step HG2.out).mono ?_; rintro e w3 ⟨⟨n2, q2, hr, rfl, hG⟩ | ⟨q, hr, rfl, hK⟩, hK2⟩; rotate_left; exact ⟨rfl, .inr ⟨q, bind_err HC2.out hr, rfl⟩, hK⟩; have hS : w3.cell? ⟨c, 0, none⟩ = some (.pointer (some ⟨b, 0, none⟩)) := (HB2.out.kept hK2 hb).cell (i := 0) rfl; have HN2 : Hid (0 ≤ n2 ∧ n2 < 4294967296) := rdNum_bd hr; have HC' := bind_ok HC2.out hr; have HC3 : Hid (rdWin B p = _) := HC'; have HB3 : Hid (Blk w3 c [.pointer (some ⟨b, 0, none⟩)] 126) := HB2.out.kept hK2 hb; have HD' := HD2.out.kept hK2 hb1; have HD3 : Hid (Blk w3 (c + 1) [.int .i64 0, .int .i64 0, .int .i64 0] 51) := HD'; have HG3 : Hid (Gon w w3 b g B q2) := hG; skip; clear hr hG hK2 HC' HD' HC2 HB2 HD2 HG2)
      | (go_at_call 76; refine (number_step HG1.out).mono ?_; rintro e w2 ⟨⟨n1, q1, hr, rfl, hG⟩ | ⟨q, hr, rfl, hK⟩, hK2⟩; rotate_left; exact ⟨rfl, .inr ⟨q, bind_err HC1.out hr, rfl⟩, hK⟩; have hS : w2.cell? ⟨c, 0, none⟩ = some (.pointer (some ⟨b, 0, none⟩)) := (HB1.out.kept hK2 hb).cell (i := 0) rfl; have HN1 : Hid (0 ≤ n1 ∧ n1 < 4294967296) := rdNum_bd hr; have HC' := bind_ok HC1.out hr; have HC2 : Hid (rdWin B p = _) := HC'; have HB2 : Hid (Blk w2 c [.pointer (some ⟨b, 0, none⟩)] 126) := HB1.out.kept hK2 hb; have HD' := HD1.out.kept hK2 hb1; have HD2 : Hid (Blk w2 (c + 1) [.int .i64 0, .int .i64 0, .int .i64 0] 51) := HD'; have HG2 : Hid (Gon w w2 b g B q1) := hG; skip; clear hr hG hK2 HC' HD' HC1 HB1 HD1 HG1))
  refine PanicTo.normal ?_
  have HE : Hid (Blk (((w4.setCell ⟨c + 1, 0, none⟩ (.int .i64 (IntKind.i64.wrap (n1 - 1)))).setCell ⟨c + 1, 1, none⟩ (.int .i64 n2)).setCell ⟨c + 1, 2, none⟩ (.int .i64 n3)) (c + 1) [.int .i64 (IntKind.i64.wrap (n1 - 1)), .int .i64 n2, .int .i64 n3] 51) := (((HD4.out.setCell 0 (.int .i64 (IntKind.i64.wrap (n1 - 1)))).setCell 1 (.int .i64 n2)).setCell 2 (.int .i64 n3))
  have HKF : Hid (Keeps (· = b) w (((w4.setCell ⟨c + 1, 0, none⟩ (.int .i64 (IntKind.i64.wrap (n1 - 1)))).setCell ⟨c + 1, 1, none⟩ (.int .i64 n2)).setCell ⟨c + 1, 2, none⟩ (.int .i64 n3))) := (((HG4.out.kp.setCell ⟨c + 1, 0, none⟩ (.int .i64 (IntKind.i64.wrap (n1 - 1))) (fun h => by have := HW.out; simp at h; omega)).setCell ⟨c + 1, 1, none⟩ (.int .i64 n2) (fun h => by have := HW.out; simp at h; omega)).setCell ⟨c + 1, 2, none⟩ (.int .i64 n3) (fun h => by have := HW.out; simp at h; omega))
  have HRF : Hid (Rd (((w4.setCell ⟨c + 1, 0, none⟩ (.int .i64 (IntKind.i64.wrap (n1 - 1)))).setCell ⟨c + 1, 1, none⟩ (.int .i64 n2)).setCell ⟨c + 1, 2, none⟩ (.int .i64 n3)) b g B q3 0) := HG4.out.rd.kept ((((((Keeps.refl (· = c + 1) w4).setCell ⟨c + 1, 0, none⟩ (.int .i64 (IntKind.i64.wrap (n1 - 1))) (fun _ => rfl))).setCell ⟨c + 1, 1, none⟩ (.int .i64 n2) (fun _ => rfl))).setCell ⟨c + 1, 2, none⟩ (.int .i64 n3) (fun _ => rfl)) (fun e => hb1 e.symm) (fun e => by have := HG4.out.rd.ne; have := HGB.out; omega)
  obtain ⟨F, hF⟩ : ∃ F, F = (((w4.setCell ⟨c + 1, 0, none⟩ (.int .i64 (IntKind.i64.wrap (n1 - 1)))).setCell ⟨c + 1, 1, none⟩ (.int .i64 n2)).setCell ⟨c + 1, 2, none⟩ (.int .i64 n3)) := ⟨_, rfl⟩
  rw [← hF] at HE HKF HRF ⊢
  clear z0 f0 z1 f1 z2 f2 hF p0 hS HB4 HD4 HG4
  go_wp2
  refine bodyPost_ret (results_cell_row rfl _ _ (c + 1) 51 _ (0, 0) _ rfl HE.out Tryz.underlying51 rfl (by kernel_rfl)) rfl ?_
  refine ⟨.inl ⟨⟨n1 - 1, n2, n3⟩, q3, HC4.out, by rw [wrap_dec HN1.out], ⟨i64_dec HN1.out, i64_of HN2.out, i64_of HN3.out⟩, HRF.out⟩, HKF.out⟩

set_option maxHeartbeats 2000000 in
theorem rchannel_any (b g p : Nat) (B : List UInt8) (w : World) (h : Rd w b g B p 0) :
    Calls Tryz.prog 82 #[.agg #[.pointer (some ⟨b, 0, none⟩)]] w fun e w' => ((∃ (x : Chn) (q : Nat), rdChn B p = .ok (x, q) ∧ e = .returned x.v ∧ x.Fine ∧ Rd w' b g B q 0) ∨ (∃ q, rdChn B p = .error q ∧ e = gone q 110)) ∧ Keeps (· = b) w w' := by
  obtain ⟨c, hc⟩ : ∃ c, c = w.heap.size := ⟨_, rfl⟩
  have HR : Hid (Rd w b g B p 0) := h
  have hb : c ≠ b := by have := h.blk.lt; omega
  have hb1 : c + 1 ≠ b := by have := h.blk.lt; omega
  have HW : Hid (w.heap.size ≤ c) := by rw [hc]; exact Nat.le_refl _
  clear h
  go_enter Tryz.func82, Tryz.ntmps82
  go_wp2
  rw [← hc]
  obtain ⟨W, hW⟩ : ∃ W, W = (w.alloc (.cells #[.pointer (some ⟨b, 0, none⟩)] 126)).alloc (.cells #[.int .i64 0, .int .i64 0, .int .i64 0] 57) := ⟨_, rfl⟩
  have hB : Blk W c [.pointer (some ⟨b, 0, none⟩)] 126 := by rw [hW, hc]; exact (Blk.new w _ _).alloc _
  have hD : Blk W (c + 1) [.int .i64 0, .int .i64 0, .int .i64 0] 57 := by rw [hW, hc]; have := Blk.new (w.alloc (.cells #[.pointer (some ⟨b, 0, none⟩)] 126)) #[.int .i64 0, .int .i64 0, .int .i64 0] 57; simpa using this
  have hG0 : Gon w W b g B p := by rw [hW]; exact ⟨HR.out.kept (((Keeps.refl (fun _ => False) w).alloc _).alloc _) (fun e => e) (fun e => e), ((Keeps.refl _ w).alloc _).alloc _⟩
  have p0 := hB.cell (i := 0) rfl
  rw [← hW]
  have HB1 : Hid (Blk W.drew c [.pointer (some ⟨b, 0, none⟩)] 126) := hB.drew
  have HD1 : Hid (Blk W.drew (c + 1) [.int .i64 0, .int .i64 0, .int .i64 0] 57) := hD.drew
  have HG1 : Hid (Gon w W.drew b g B p) := hG0.drew
  have HC1 : Hid (rdChn B p = (rdNum B p).bind _) := rfl
  have HGB : Hid (g < c) := by rw [hc]; exact HR.out.bytes.lt
  clear hW hB hD hG0 HR hc
  refine wp_region_panicTo (fun e w' => ((∃ (x : Chn) (q : Nat), rdChn B p = .ok (x, q) ∧ e = .returned x.v ∧ x.Fine ∧ Rd w' b g B q 0) ∨ (∃ q, rdChn B p = .error q ∧ e = gone q 110)) ∧ Keeps (· = b) w w') (fun c a w h1 h2 => ⟨h1, h2⟩) ?_
  go_region_held2 (fun w' => w'.cell? ⟨c, 0, none⟩ = some (.pointer (some ⟨b, 0, none⟩))) (first | exact hS | go_keep)
    (first
      | (go_at_call 76; refine (number_step HG3.out).mono ?_; rintro e w4 ⟨⟨n3, q3, hr, rfl, hG⟩ | ⟨q, hr, rfl, hK⟩, hK2⟩; rotate_left; exact ⟨rfl, .inr ⟨q, bind_err HC3.out hr, rfl⟩, hK⟩; have hS : w4.cell? ⟨c, 0, none⟩ = some (.pointer (some ⟨b, 0, none⟩)) := (HB3.out.kept hK2 hb).cell (i := 0) rfl; have HN3 : Hid (0 ≤ n3 ∧ n3 < 4294967296) := rdNum_bd hr; have HC' := bind_ok HC3.out hr; have HC4 : Hid (rdChn B p = _) := HC'; have HB4 : Hid (Blk w4 c [.pointer (some ⟨b, 0, none⟩)] 126) := HB3.out.kept hK2 hb; have HD' := HD3.out.kept hK2 hb1; have HD4 : Hid (Blk w4 (c + 1) [.int .i64 0, .int .i64 0, .int .i64 0] 57) := HD'; have HG4 : Hid (Gon w w4 b g B q3) := hG; have z0 := HD'.cell (i := 0) rfl; have f0 := HD'.frozen 0; have z1 := HD'.cell (i := 1) rfl; have f1 := HD'.frozen 1; have z2 := HD'.cell (i := 2) rfl; have f2 := HD'.frozen 2; clear hr hG hK2 HC' HD' HC3 HB3 HD3 HG3)
      | (go_at_call 76; refine (number_step HG2.out).mono ?_; rintro e w3 ⟨⟨n2, q2, hr, rfl, hG⟩ | ⟨q, hr, rfl, hK⟩, hK2⟩; rotate_left; exact ⟨rfl, .inr ⟨q, bind_err HC2.out hr, rfl⟩, hK⟩; have hS : w3.cell? ⟨c, 0, none⟩ = some (.pointer (some ⟨b, 0, none⟩)) := (HB2.out.kept hK2 hb).cell (i := 0) rfl; have HN2 : Hid (0 ≤ n2 ∧ n2 < 4294967296) := rdNum_bd hr; have HC' := bind_ok HC2.out hr; have HC3 : Hid (rdChn B p = _) := HC'; have HB3 : Hid (Blk w3 c [.pointer (some ⟨b, 0, none⟩)] 126) := HB2.out.kept hK2 hb; have HD' := HD2.out.kept hK2 hb1; have HD3 : Hid (Blk w3 (c + 1) [.int .i64 0, .int .i64 0, .int .i64 0] 57) := HD'; have HG3 : Hid (Gon w w3 b g B q2) := hG; skip; clear hr hG hK2 HC' HD' HC2 HB2 HD2 HG2)
      | (go_at_call 76; refine (number_step HG1.out).mono ?_; rintro e w2 ⟨⟨n1, q1, hr, rfl, hG⟩ | ⟨q, hr, rfl, hK⟩, hK2⟩; rotate_left; exact ⟨rfl, .inr ⟨q, bind_err HC1.out hr, rfl⟩, hK⟩; have hS : w2.cell? ⟨c, 0, none⟩ = some (.pointer (some ⟨b, 0, none⟩)) := (HB1.out.kept hK2 hb).cell (i := 0) rfl; have HN1 : Hid (0 ≤ n1 ∧ n1 < 4294967296) := rdNum_bd hr; have HC' := bind_ok HC1.out hr; have HC2 : Hid (rdChn B p = _) := HC'; have HB2 : Hid (Blk w2 c [.pointer (some ⟨b, 0, none⟩)] 126) := HB1.out.kept hK2 hb; have HD' := HD1.out.kept hK2 hb1; have HD2 : Hid (Blk w2 (c + 1) [.int .i64 0, .int .i64 0, .int .i64 0] 57) := HD'; have HG2 : Hid (Gon w w2 b g B q1) := hG; skip; clear hr hG hK2 HC' HD' HC1 HB1 HD1 HG1))
  refine PanicTo.normal ?_
  have HE : Hid (Blk (((w4.setCell ⟨c + 1, 0, none⟩ (.int .i64 n1)).setCell ⟨c + 1, 1, none⟩ (.int .i64 n2)).setCell ⟨c + 1, 2, none⟩ (.int .i64 n3)) (c + 1) [.int .i64 n1, .int .i64 n2, .int .i64 n3] 57) := (((HD4.out.setCell 0 (.int .i64 n1)).setCell 1 (.int .i64 n2)).setCell 2 (.int .i64 n3))
  have HKF : Hid (Keeps (· = b) w (((w4.setCell ⟨c + 1, 0, none⟩ (.int .i64 n1)).setCell ⟨c + 1, 1, none⟩ (.int .i64 n2)).setCell ⟨c + 1, 2, none⟩ (.int .i64 n3))) := (((HG4.out.kp.setCell ⟨c + 1, 0, none⟩ (.int .i64 n1) (fun h => by have := HW.out; simp at h; omega)).setCell ⟨c + 1, 1, none⟩ (.int .i64 n2) (fun h => by have := HW.out; simp at h; omega)).setCell ⟨c + 1, 2, none⟩ (.int .i64 n3) (fun h => by have := HW.out; simp at h; omega))
  have HRF : Hid (Rd (((w4.setCell ⟨c + 1, 0, none⟩ (.int .i64 n1)).setCell ⟨c + 1, 1, none⟩ (.int .i64 n2)).setCell ⟨c + 1, 2, none⟩ (.int .i64 n3)) b g B q3 0) := HG4.out.rd.kept ((((((Keeps.refl (· = c + 1) w4).setCell ⟨c + 1, 0, none⟩ (.int .i64 n1) (fun _ => rfl))).setCell ⟨c + 1, 1, none⟩ (.int .i64 n2) (fun _ => rfl))).setCell ⟨c + 1, 2, none⟩ (.int .i64 n3) (fun _ => rfl)) (fun e => hb1 e.symm) (fun e => by have := HG4.out.rd.ne; have := HGB.out; omega)
  obtain ⟨F, hF⟩ : ∃ F, F = (((w4.setCell ⟨c + 1, 0, none⟩ (.int .i64 n1)).setCell ⟨c + 1, 1, none⟩ (.int .i64 n2)).setCell ⟨c + 1, 2, none⟩ (.int .i64 n3)) := ⟨_, rfl⟩
  rw [← hF] at HE HKF HRF ⊢
  clear z0 f0 z1 f1 z2 f2 hF p0 hS HB4 HD4 HG4
  go_wp2
  refine bodyPost_ret (results_cell_row rfl _ _ (c + 1) 57 _ (0, 0) _ rfl HE.out Tryz.underlying57 rfl (by kernel_rfl)) rfl ?_
  refine ⟨.inl ⟨⟨n1, n2, n3⟩, q3, HC4.out, rfl, ⟨i64_of HN1.out, i64_of HN2.out, i64_of HN3.out⟩, HRF.out⟩, HKF.out⟩

end Go.Proofs.YtjadpbkhfclldaaGreat
