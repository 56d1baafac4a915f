import Derived.Test.YtjadpbkhfclldaaGreatJGa
namespace Go.Proofs.YtjadpbkhfclldaaGreat
open Go.RowKit
set_option linter.unusedVariables false
set_option maxRecDepth 6000

/-- What the cursor's number does. -/
def cuV (B : List UInt8) (p : Nat) (bad : Bool) (n : Nat) : Nat := if bad then 0 else if B.length < p + n then 0 else highN ((B.drop p).take n)
def cuP (B : List UInt8) (p : Nat) (bad : Bool) (n : Nat) : Nat := if bad then p else if B.length < p + n then p else p + n
def cuB (B : List UInt8) (p : Nat) (bad : Bool) (n : Nat) : Bool := bad || decide (B.length < p + n)

theorem take_any' (b g o cap p n : Nat) (bad : Bool) (B : List UInt8) (w : World) (h : Cu w b g o cap B p bad) (hn : n ≤ 255) :
    Calls Tryz.prog 50 #[.pointer (some ⟨b, 0, none⟩), .int .i64 n] w fun e w' => (∃ a c, e = .returned (.slice a (if cuB B p bad n then 0 else n) c) ∧ Seg w' a (if cuB B p bad n then [] else (B.drop p).take n) ∧ c ≤ maxLen ∧ (cuB B p bad n = false → n ≤ c)) ∧ Cu w' b g o cap B (cuP B p bad n) (cuB B p bad n) ∧ Keeps (· = b) w w' := by
  cases bad
  · by_cases hs : B.length < p + n
    · have e1 : cuB B p false n = true := by simp [cuB, hs]
      have e2 : cuP B p false n = p := by simp [cuP, hs]
      rw [e1, e2]
      refine (take_short b g o cap p n B w h hs (by omega)).mono ?_
      rintro e w' ⟨rfl, h1, h2⟩
      exact ⟨⟨none, 0, rfl, .inl rfl, Nat.zero_le _, fun e => by cases e⟩, h1, h2⟩
    · have e1 : cuB B p false n = false := by simp [cuB]; omega
      have e2 : cuP B p false n = p + n := by simp [cuP, hs]
      rw [e1, e2]
      refine (take_ok b g o cap p n B w h (by omega)).mono ?_
      rintro e w' ⟨⟨x, rfl, hx⟩, h1, h2⟩
      have hc := h1.cap
      unfold maxLen at hc
      have hle := h1.le
      refine ⟨⟨some ⟨g, x, none⟩, cap - p, rfl, ?_, by unfold maxLen; omega, fun _ => by omega⟩, h1, h2⟩
      show Seg w' (some ⟨g, x, none⟩) ((B.drop p).take n)
      rcases hx with rfl | h0
      · rcases h1.seg with h3 | ⟨g', o', h3, hc3⟩
        · left; rw [h3]; simp
        · cases h3
          refine .inr ⟨g, o + p, rfl, fun j hj => ?_⟩
          have hj2 : j < n ∧ p + j < B.length := by rw [List.length_take, List.length_drop] at hj; omega
          have := hc3 (p + j) hj2.2
          rw [List.getElem_take, List.getElem_drop, Nat.add_assoc]
          exact this
      · left; rw [h0]; simp
  · have e1 : cuB B p true n = true := rfl
    have e2 : cuP B p true n = p := rfl
    rw [e1, e2]
    refine (take_bad b g o cap p n B w h).mono ?_
    rintro e w' ⟨rfl, h1, h2⟩
    exact ⟨⟨none, 0, rfl, .inl rfl, Nat.zero_le _, fun e => by cases e⟩, h1, h2⟩

theorem highN_drop (xs : List UInt8) (j : Nat) (hj : j < xs.length) : highN (xs.drop j) = xs[j].toNat + 256 * highN (xs.drop (j + 1)) := by
  rw [List.drop_eq_getElem_cons hj]; rfl

set_option maxHeartbeats 1000000 in
theorem cnumber_any (b g o cap p n : Nat) (bad : Bool) (B : List UInt8) (w : World) (h : Cu w b g o cap B p bad) (hn : n ≤ 4) :
    Calls Tryz.prog 52 #[.pointer (some ⟨b, 0, none⟩), .int .i64 n] w fun e w' => e = .returned (.int .i64 (cuV B p bad n)) ∧ Cu w' b g o cap B (cuP B p bad n) (cuB B p bad n) ∧ Keeps (· = b) w w' := by
  have HT : Hid (Calls _ _ _ _ _) := take_any' b g o cap p n bad B w h (by omega)
  obtain ⟨xs, hxs⟩ : ∃ xs, xs = if cuB B p bad n then [] else (B.drop p).take n := ⟨_, rfl⟩
  have hlen : xs.length = if cuB B p bad n then 0 else n := by
    rw [hxs]
    by_cases hb : cuB B p bad n = true
    · simp [hb]
    · have hb' : cuB B p bad n = false := by simpa using hb
      rw [hb']
      have : ¬ B.length < p + n := by simp [cuB] at hb'; omega
      simp; omega
  have hV : cuV B p bad n = highN xs := by
    rw [hxs]
    by_cases hb : cuB B p bad n = true
    · have : cuV B p bad n = 0 := by
        unfold cuV; unfold cuB at hb; cases bad
        · simp at hb; simp [hb]
        · rfl
      rw [this, hb]; rfl
    · have hb' : cuB B p bad n = false := by simpa using hb
      rw [hb']
      unfold cuB at hb'; cases bad
      · simp at hb'; unfold cuV; simp; omega
      · simp at hb'
  rw [← hlen, ← hxs] at HT
  have hx4 : xs.length ≤ 4 := by rw [hlen]; split <;> omega
  rw [hV]
  obtain ⟨P', hP'⟩ : ∃ P', cuP B p bad n = P' := ⟨_, rfl⟩
  obtain ⟨B', hB'⟩ : ∃ B', cuB B p bad n = B' := ⟨_, rfl⟩
  rw [hP', hB'] at HT ⊢
  obtain ⟨L, hL⟩ : ∃ L, xs.length = L := ⟨_, rfl⟩
  have HL : Hid (xs.length = L) := hL
  rw [hL] at hx4 HT
  clear h hxs hlen hV hP' hB' hL
  go_enter Tryz.func52, Tryz.ntmps52
  go_wp2_with fail
  refine HT.out.mono ?_
  rintro e w1 ⟨⟨a, c, rfl, hs, hc, _⟩, hC, hK⟩
  have H1 : Hid (Seg w1 a xs ∧ Cu w1 b g o cap B P' B' ∧ Keeps (· = b) w w1 ∧ c ≤ maxLen) := ⟨hs, hC, hK, hc⟩
  have hw : IntKind.i64.wrap ((L : Int) - 1) = (L : Int) - 1 := by rw [IntKind.wrap_i64]; omega
  have hcc : (c : Int) ≤ 9223372036854775807 := by unfold maxLen at hc; omega
  clear hs hC hK hc HT
  go_wp2
  go_loopw [6, 7] (fun v i wr => ∃ j : Nat, j ≤ L ∧ i = .int .i64 ((j : Int) - 1) ∧ v = .int .i64 ((highN (xs.drop j) : Nat) : Int) ∧ wr = w1) (fun _ i _ => (intOf i + 1).toNat)
  case atStart => exact ⟨L, Nat.le_refl _, rfl, by rw [List.drop_of_length_le (by have := HL.out; omega)]; rfl, rfl⟩
  case round =>
    obtain ⟨j, hj, rfl, rfl, rfl⟩ := hrel
    cases j with
    | zero =>
      rw [List.drop_zero]
      have hz : ((0 : Nat) : Int) - 1 = -1 := by omega
      rw [hz]
      go_wp2
      go_ret
      exact ⟨rfl, H1.out.2.1, H1.out.2.2.1⟩
    | succ m =>
      have hm : ((m + 1 : Nat) : Int) - 1 = m := by omega
      rw [hm]
      have hml : m < xs.length := by have := HL.out; omega
      obtain ⟨ga, oa, haa, hca⟩ : ∃ ga oa, a = some ⟨ga, oa, none⟩ ∧ ∀ j, (h : j < xs.length) → wr.cell? ⟨ga, oa + j, none⟩ = some (.int .u8 (xs[j].toNat : Int)) := by
        rcases H1.out.1 with h0 | h0
        · rw [h0] at hml; simp at hml
        · exact h0
      subst haa
      have y0 := hca m hml
      have hd := highN_drop xs m hml
      have hub := highN_lt (xs.drop (m + 1))
      have hlb : (xs.drop (m + 1)).length ≤ 3 := by rw [List.length_drop]; have := HL.out; omega
      have h256 : (256 : Nat) ^ (xs.drop (m + 1)).length ≤ 256 ^ 3 := Nat.pow_le_pow_right (by decide) hlb
      have h3 : (256 : Nat) ^ 3 = 16777216 := by decide
      obtain ⟨V, hV⟩ : ∃ V, highN (xs.drop (m + 1)) = V := ⟨_, rfl⟩
      have hx8 := xs[m].toNat_lt
      obtain ⟨Y, hY⟩ : ∃ Y, xs[m].toNat = Y := ⟨_, rfl⟩
      rw [hV, hY] at hd
      rw [hV] at hub ⊢
      rw [hY] at y0 hx8
      have hVb : V < 16777216 := by omega
      have w1' : IntKind.i64.wrap (256 * (V : Int)) = 256 * (V : Int) := by rw [IntKind.wrap_i64]; omega
      have w2' : IntKind.i64.wrap (Y : Int) = Y := by rw [IntKind.wrap_i64]; omega
      have w3' : IntKind.i64.wrap (256 * (V : Int) + Y) = 256 * (V : Int) + Y := by rw [IntKind.wrap_i64]; omega
      have w4' : IntKind.i64.wrap ((m : Int) - 1) = (m : Int) - 1 := by rw [IntKind.wrap_i64]; omega
      have hmL : (m : Int) < L := by omega
      have HD : Hid (highN (xs.drop m) = Y + 256 * V) := hd
      clear hd hub hlb h256 h3 hV hY hca hml
      go_wp2
      go_roundw
      case rel => exact ⟨m, by omega, rfl, by rw [HD.out]; congr 1; omega, by first | rfl | trivial⟩
      case measure => simp [intOf]
end Go.Proofs.YtjadpbkhfclldaaGreat
namespace Go.Proofs.YtjadpbkhfclldaaGreat
open Go.RowKit
set_option linter.unusedVariables false
set_option maxRecDepth 6000

theorem cu_u8 (B : List UInt8) (p : Nat) : (cuB B p false 1 = false ∧ rdU8 B p = .ok (cuV B p false 1, cuP B p false 1)) ∨ (cuB B p false 1 = true ∧ rdU8 B p = .error p ∧ cuP B p false 1 = p ∧ cuV B p false 1 = 0) := by
  unfold cuB rdU8 cuV cuP
  by_cases hl : B.length < p + 1
  · right; simp [hl]
  · left; simp [hl]
theorem cu_num (B : List UInt8) (p : Nat) : (cuB B p false 4 = false ∧ rdNum B p = .ok ((cuV B p false 4 : Nat), cuP B p false 4)) ∨ (cuB B p false 4 = true ∧ rdNum B p = .error p ∧ cuP B p false 4 = p ∧ cuV B p false 4 = 0) := by
  unfold cuB rdNum cuV cuP
  by_cases hl : B.length < p + 4
  · right; simp [hl]
  · left; simp [hl]
theorem cu_bad (B : List UInt8) (p n : Nat) : cuB B p true n = true ∧ cuP B p true n = p ∧ cuV B p true n = 0 := ⟨rfl, rfl, rfl⟩

/-- The cursor stands elsewhere. -/
theorem Cu.at_ {w : World} {b g o cap p : Nat} {B : List UInt8} {bad : Bool} (h : Cu w b g o cap B p bad) (q : Nat) (hq : q ≤ B.length) : Cu (w.setCell ⟨b, 1, none⟩ (.int .i64 q)) b g o cap B q bad ∧ Keeps (· = b) w (w.setCell ⟨b, 1, none⟩ (.int .i64 q)) := by
  have hK : Keeps (· = b) w (w.setCell ⟨b, 1, none⟩ (.int .i64 q)) := (Keeps.refl (· = b) w).setCell _ _ fun _ => rfl
  refine ⟨⟨?_, h.seg.keptB hK (fun hn y hy => by cases hy; exact h.ne hn), h.ne, h.cap, hq⟩, hK⟩
  have := h.blk.setCell 1 (.int .i64 q)
  exact this
theorem Cu.bad_ {w : World} {b g o cap p : Nat} {B : List UInt8} {bad : Bool} (h : Cu w b g o cap B p bad) : Cu (w.setCell ⟨b, 2, none⟩ (.bool true)) b g o cap B p true ∧ Keeps (· = b) w (w.setCell ⟨b, 2, none⟩ (.bool true)) := by
  have hK : Keeps (· = b) w (w.setCell ⟨b, 2, none⟩ (.bool true)) := (Keeps.refl (· = b) w).setCell _ _ fun _ => rfl
  refine ⟨⟨?_, h.seg.keptB hK (fun hn y hy => by cases hy; exact h.ne hn), h.ne, h.cap, h.le⟩, hK⟩
  have := h.blk.setCell 2 (.bool true)
  exact this

/-- Where the cursor stands, and whether it has stopped. -/
abbrev CS := Nat × Bool
def CuS (w : World) (b g o cap : Nat) (B : List UInt8) (s : CS) : Prop := Cu w b g o cap B s.1 s.2
def cNum (B : List UInt8) (n : Nat) (s : CS) : Nat × CS := (cuV B s.1 s.2 n, cuP B s.1 s.2 n, cuB B s.1 s.2 n)
def cInt (B : List UInt8) (s : CS) : Int × CS := (((cNum B 4 s).1 : Nat), (cNum B 4 s).2)
def cSrc (B : List UInt8) (s : CS) : Bool × CS := if 1 < (cNum B 1 s).1 then (false, s.1, true) else ((cNum B 1 s).1 == 1, (cNum B 1 s).2)
def cText (B : List UInt8) (s : CS) : ByteArray × CS :=
  if 255 < (cNum B 4 s).1 then (⟨#[]⟩, s.1, true)
  else if cuB B (cNum B 4 s).2.1 (cNum B 4 s).2.2 (cNum B 4 s).1 then (⟨#[]⟩, s.1, true)
  else (⟨((B.drop (cNum B 4 s).2.1).take (cNum B 4 s).1).toArray⟩, cuP B (cNum B 4 s).2.1 (cNum B 4 s).2.2 (cNum B 4 s).1, false)
def cBind {α β : Type} (c : CS → α × CS) (f : α → CS → β × CS) (s : CS) : β × CS := f (c s).1 (c s).2
def cMany {α : Type} (f : CS → α × CS) : Nat → CS → List α × CS
  | 0, s => ([], s)
  | n + 1, s => if (cMany f n s).2.2 then cMany f n s else ((cMany f n s).1 ++ [(f (cMany f n s).2).1], (f (cMany f n s).2).2)
def cList {α : Type} (B : List UInt8) (f : CS → α × CS) (s : CS) : List α × CS := cMany f (cNum B 1 s).1 (cNum B 1 s).2
def cWin (B : List UInt8) (s : CS) : Win × CS := cBind (cInt B) (fun a => cBind (cInt B) fun b => cBind (cInt B) fun c s => (⟨a - 1, b, c⟩, s)) s
def cRgn (B : List UInt8) (s : CS) : Rgn × CS := cBind (cInt B) (fun a => cBind (cInt B) fun b => cBind (cInt B) fun c => cBind (cInt B) fun d s => (⟨a, b, c, d⟩, s)) s
def cChn (B : List UInt8) (s : CS) : Chn × CS := cBind (cInt B) (fun a => cBind (cInt B) fun b => cBind (cInt B) fun c s => (⟨a, b, c⟩, s)) s
def cPrt (B : List UInt8) (s : CS) : Prt × CS := cBind (cInt B) (fun a => cBind (cSrc B) fun b s => (⟨a, b⟩, s)) s
def cCore (B : List UInt8) (s : CS) : List Win × CS := cList B (cWin B) s
def cPar (B : List UInt8) (s : CS) : PPar × CS := cBind (cText B) (fun n => cBind (cInt B) fun a => cBind (cInt B) fun b => cBind (cInt B) fun c => cBind (cInt B) fun d => cBind (cInt B) fun e =>
  cBind (cList B (cRgn B)) fun r => cBind (cList B (cPrt B)) fun q s => (⟨n, a, b, c, d, e, r, q⟩, s)) s
def cCfg (B : List UInt8) (s : CS) : PCfg × CS := cBind (cInt B) (fun a => cBind (cInt B) fun b => cBind (cInt B) fun c => cBind (cInt B) fun d =>
  cBind (cList B (cCore B)) fun x => cBind (cList B (cPar B)) fun y => cBind (cList B (cChn B)) fun z s => (⟨a, b, c, d, x, y, z⟩, s)) s

/-- The cursor reads as the reader reads. -/
def It {α : Type} (c : CS → α × CS) (rd : Nat → Rs α) : Prop :=
  (∀ p, (c (p, true)).2 = (p, true)) ∧ ∀ p, (∃ x q, rd p = .ok (x, q) ∧ c (p, false) = (x, q, false)) ∨ (∃ q, rd p = .error q ∧ (c (p, false)).2 = (q, true))
theorem It.pure {α : Type} (x : α) : It (fun s => (x, s)) (fun p => .ok (x, p)) := ⟨fun _ => rfl, fun p => .inl ⟨x, p, rfl, rfl⟩⟩
theorem It.bind {α β : Type} {c : CS → α × CS} {rd : Nat → Rs α} {f : α → CS → β × CS} {rf : α → Nat → Rs β} (h : It c rd) (hf : ∀ x, It (f x) (rf x)) : It (cBind c f) (fun p => (rd p).bind fun r => rf r.1 r.2) := by
  refine ⟨fun p => ?_, fun p => ?_⟩
  · show (f (c (p, true)).1 (c (p, true)).2).2 = _
    rw [h.1 p]; exact (hf _).1 p
  · rcases h.2 p with ⟨x, q, h1, h2⟩ | ⟨q, h1, h2⟩
    · rcases (hf x).2 q with ⟨y, r, h3, h4⟩ | ⟨r, h3, h4⟩
      · exact .inl ⟨y, r, by show (rd p).bind _ = _; rw [h1]; exact h3, by show f (c (p, false)).1 (c (p, false)).2 = _; rw [h2]; exact h4⟩
      · exact .inr ⟨r, by show (rd p).bind _ = _; rw [h1]; exact h3, by show (f (c (p, false)).1 (c (p, false)).2).2 = _; rw [h2]; exact h4⟩
    · exact .inr ⟨q, by show (rd p).bind _ = _; rw [h1]; rfl, by show (f (c (p, false)).1 (c (p, false)).2).2 = _; rw [h2]; exact (hf _).1 q⟩
theorem It.many {α : Type} {c : CS → α × CS} {rd : Nat → Rs α} (h : It c rd) : ∀ n, It (cMany c n) (rdMany rd n) := by
  intro n
  induction n with
  | zero => exact ⟨fun _ => rfl, fun p => .inl ⟨[], p, rfl, rfl⟩⟩
  | succ n ih =>
    refine ⟨fun p => ?_, fun p => ?_⟩
    · unfold cMany; rw [if_pos (by rw [ih.1 p])]; exact ih.1 p
    · rcases ih.2 p with ⟨x, q, h1, h2⟩ | ⟨q, h1, h2⟩
      · rcases h.2 q with ⟨y, r, h3, h4⟩ | ⟨r, h3, h4⟩
        · refine .inl ⟨x ++ [y], r, by unfold rdMany; rw [h1]; show (rd q).bind _ = _; rw [h3]; rfl, ?_⟩
          unfold cMany; rw [h2]; show (if false = true then _ else (x ++ [(c (q, false)).1], (c (q, false)).2)) = _; rw [h4]; rfl
        · refine .inr ⟨r, by unfold rdMany; rw [h1]; show (rd q).bind _ = _; rw [h3]; rfl, ?_⟩
          unfold cMany; rw [h2]; show (if false = true then _ else (x ++ [(c (q, false)).1], (c (q, false)).2)).2 = _; exact h4
      · refine .inr ⟨q, by unfold rdMany; rw [h1]; rfl, ?_⟩
        unfold cMany; rw [if_pos (by rw [h2])]; exact h2
theorem It.u8 (B : List UInt8) : It (cNum B 1) (rdU8 B) := ⟨fun _ => rfl, fun p => by
  rcases cu_u8 B p with ⟨h1, h2⟩ | ⟨h1, h2, h3, h4⟩
  · exact .inl ⟨_, _, h2, by show (_, _, cuB B p false 1) = _; rw [h1]⟩
  · exact .inr ⟨p, h2, by show (cuP B p false 1, cuB B p false 1) = _; rw [h1, h3]⟩⟩
theorem It.int (B : List UInt8) : It (cInt B) (rdNum B) := ⟨fun _ => rfl, fun p => by
  rcases cu_num B p with ⟨h1, h2⟩ | ⟨h1, h2, h3, h4⟩
  · exact .inl ⟨_, _, h2, by show (_, _, cuB B p false 4) = _; rw [h1]; rfl⟩
  · exact .inr ⟨p, h2, by show (cuP B p false 4, cuB B p false 4) = _; rw [h1, h3]⟩⟩
theorem It.src (B : List UInt8) : It (cSrc B) (rdSrc B) := by
  refine ⟨fun _ => rfl, fun p => ?_⟩
  rcases (It.u8 B).2 p with ⟨x, q, h1, h2⟩ | ⟨q, h1, h2⟩
  · by_cases hx : 1 < x
    · exact .inr ⟨p, by unfold rdSrc; rw [h1]; show (if 1 < x then _ else _) = _; rw [if_pos hx], by unfold cSrc; rw [h2]; show (if 1 < x then _ else _ : Bool × CS).2 = _; rw [if_pos hx]⟩
    · exact .inl ⟨x == 1, q, by unfold rdSrc; rw [h1]; show (if 1 < x then _ else _) = _; rw [if_neg hx], by unfold cSrc; rw [h2]; show (if 1 < x then _ else _ : Bool × CS) = _; rw [if_neg hx]⟩
  · have h0 : (cNum B 1 (p, false)).1 = 0 := by
      rcases cu_u8 B p with ⟨_, h3⟩ | ⟨_, _, _, h3⟩
      · rw [h3] at h1; cases h1
      · exact h3
    exact .inr ⟨q, by unfold rdSrc; rw [h1]; rfl, by unfold cSrc; rw [h0]; exact h2⟩
theorem It.list {α : Type} {B : List UInt8} {c : CS → α × CS} {rd : Nat → Rs α} (h : It c rd) : It (cList B c) (rdList B rd) := (It.u8 B).bind fun n => h.many n
theorem It.win (B : List UInt8) : It (cWin B) (rdWin B) := (It.int B).bind fun a => (It.int B).bind fun b => (It.int B).bind fun c => It.pure _
theorem It.rgn (B : List UInt8) : It (cRgn B) (rdRgn B) := (It.int B).bind fun a => (It.int B).bind fun b => (It.int B).bind fun c => (It.int B).bind fun d => It.pure _
theorem It.chn (B : List UInt8) : It (cChn B) (rdChn B) := (It.int B).bind fun a => (It.int B).bind fun b => (It.int B).bind fun c => It.pure _
theorem It.prt (B : List UInt8) : It (cPrt B) (rdPrt B) := (It.int B).bind fun a => (It.src B).bind fun b => It.pure _
theorem It.core (B : List UInt8) : It (cCore B) (rdCore B) := (It.win B).list
theorem It.text (B : List UInt8) : It (cText B) (rdText B) := by
  refine ⟨fun p => ?_, fun p => ?_⟩
  · unfold cText
    rw [show (cNum B 4 (p, true)) = (0, p, true) from rfl]; rfl
  · by_cases h4 : B.length < p + 4
    · refine .inr ⟨p, ?_, ?_⟩
      · unfold rdText; rw [if_neg]; unfold txtE; simp [h4]
      · have : cNum B 4 (p, false) = (0, p, true) := by unfold cNum cuV cuP cuB; simp [h4]
        unfold cText; rw [this]; rfl
    · have hn : cNum B 4 (p, false) = (txtN B p, p + 4, false) := by unfold cNum cuV cuP cuB txtN; simp [h4]
      obtain ⟨n, hN⟩ : ∃ n, txtN B p = n := ⟨_, rfl⟩
      rw [hN] at hn
      by_cases h5 : 255 < n
      · refine .inr ⟨p, ?_, ?_⟩
        · unfold rdText; rw [if_neg]; unfold txtE; rw [if_neg (by simp), if_neg h4, hN, if_pos (by omega)]; decide
        · unfold cText; rw [hn]; show (if 255 < n then _ else _ : ByteArray × CS).2 = _; rw [if_pos h5]
      · by_cases h6 : B.length < p + 4 + n
        · refine .inr ⟨p, ?_, ?_⟩
          · unfold rdText; rw [if_neg]; unfold txtE; rw [if_neg (by simp), if_neg h4, hN, if_neg (by omega), if_pos h6]; decide
          · unfold cText; rw [hn]; show (if 255 < n then _ else if cuB B (p + 4) false n = true then _ else _ : ByteArray × CS).2 = _; rw [if_neg h5, if_pos (by unfold cuB; simp; omega)]
        · have hE : txtE B p 0 255 = 0 := by unfold txtE; rw [if_neg (by simp), if_neg h4, hN, if_neg (by omega), if_neg h6]
          refine .inl ⟨⟨((B.drop (p + 4)).take n).toArray⟩, p + 4 + n, ?_, ?_⟩
          · unfold rdText; rw [if_pos hE]; unfold txtV txtP; rw [if_pos hE, if_pos hE, hN]
          · unfold cText; rw [hn]; show (if 255 < n then _ else if cuB B (p + 4) false n = true then _ else (_, cuP B (p + 4) false n, false) : ByteArray × CS) = _; rw [if_neg h5, if_neg (by unfold cuB; simp; omega)]
            unfold cuP; simp [h6]
theorem It.par (B : List UInt8) : It (cPar B) (rdPar B) := (It.text B).bind fun n => (It.int B).bind fun a => (It.int B).bind fun b => (It.int B).bind fun c => (It.int B).bind fun d => (It.int B).bind fun e =>
  (It.rgn B).list.bind fun r => (It.prt B).list.bind fun q => It.pure _
theorem It.cfg (B : List UInt8) : It (cCfg B) (rdCfg B) := by
  have hx : It (cList B (cCore B)) (rdList B (rdCore B)) := (It.core B).list
  have hy : It (cList B (cPar B)) (rdList B (rdPar B)) := (It.par B).list
  have hz : It (cList B (cChn B)) (rdList B (rdChn B)) := (It.chn B).list
  exact (It.int B).bind fun a => (It.int B).bind fun b => (It.int B).bind fun c => (It.int B).bind fun d => hx.bind fun x => hy.bind fun y => hz.bind fun z => It.pure _
theorem cuV_lt (B : List UInt8) (p n : Nat) (bad : Bool) : cuV B p bad n < 256 ^ n := by
  unfold cuV
  split
  · exact Nat.pow_pos (by decide)
  · split
    · exact Nat.pow_pos (by decide)
    · refine Nat.lt_of_lt_of_le (highN_lt _) (Nat.pow_le_pow_right (by decide) ?_)
      rw [List.length_take]; exact Nat.min_le_left _ _
theorem cNum4 (B : List UInt8) (s : CS) : ∃ (V : Nat) (s' : CS), cNum B 4 s = (V, s') ∧ V < 4294967296 := ⟨_, _, rfl, cuV_lt B s.1 4 s.2⟩
theorem cNum1 (B : List UInt8) (s : CS) : ∃ (V : Nat) (s' : CS), cNum B 1 s = (V, s') ∧ V < 256 := ⟨_, _, rfl, cuV_lt B s.1 1 s.2⟩
/-- The numbers, by where they leave the cursor. -/
theorem num_call {B : List UInt8} {s s' : CS} {V n : Nat} {w : World} {b g o cap : Nat} (h : CuS w b g o cap B s) (hn : n ≤ 4) (he : cNum B n s = (V, s')) :
    Calls Tryz.prog 52 #[.pointer (some ⟨b, 0, none⟩), .int .i64 n] w fun e w' => e = .returned (.int .i64 V) ∧ CuS w' b g o cap B s' ∧ Keeps (· = b) w w' := by
  have h1 := cnumber_any b g o cap s.1 n s.2 B w h hn
  have e1 : cuV B s.1 s.2 n = V := congrArg (·.1) he
  have e2 : (cuP B s.1 s.2 n, cuB B s.1 s.2 n) = s' := congrArg (·.2) he
  refine h1.mono ?_
  rintro e w' ⟨h2, h3, h4⟩
  rw [e1] at h2
  exact ⟨h2, by rw [← e2]; exact h3, h4⟩
end Go.Proofs.YtjadpbkhfclldaaGreat
namespace Go.Proofs.YtjadpbkhfclldaaGreat
open Go.RowKit
set_option linter.unusedVariables false
set_option maxRecDepth 6000

set_option maxHeartbeats 1000000 in
theorem csource_any (b g o cap : Nat) (s : CS) (B : List UInt8) (w : World) (h : CuS w b g o cap B s) :
    Calls Tryz.prog 101 #[.pointer (some ⟨b, 0, none⟩)] w fun e w' => e = .returned (.bool (cSrc B s).1) ∧ CuS w' b g o cap B (cSrc B s).2 ∧ Keeps (· = b) w w' := by
  obtain ⟨p, bad⟩ := s
  have HC : Hid (Cu w b g o cap B p bad) := h
  have c1 := HC.out.blk.cell (i := 1) rfl
  obtain ⟨V, s', he, hV⟩ := cNum1 B (p, bad)
  have HN : Hid (Calls _ _ _ _ _) := num_call h (by omega) he
  obtain ⟨v, t, hvt⟩ : ∃ v t, cSrc B (p, bad) = (v, t) := ⟨_, _, rfl⟩
  rw [hvt]
  have hc : (if 1 < V then (false, p, true) else (V == 1, s')) = (v, t) := by rw [← hvt]; unfold cSrc; rw [he]
  by_cases h1 : 1 < V
  · rw [if_pos h1] at hc
    obtain ⟨rfl, rfl⟩ := Prod.mk.inj hc
    have h1' : (1 : Int) < V := by omega
    have h2' : ((V : Int) = 1) = False := by simp; omega
    clear h he hvt hc
    go_enter Tryz.func101, Tryz.ntmps101
    go_wp2_with fail
    refine HN.out.mono ?_
    rintro e w1 ⟨rfl, hC1, hK1⟩
    clear HN c1
    have hC1 : Cu w1 b g o cap B s'.1 s'.2 := hC1
    have d2 := hC1.blk.cell (i := 2) rfl
    have d1 := hC1.blk.cell (i := 1) rfl
    have e2 := hC1.blk.frozen 2
    have hB2 := (hC1.bad_).1
    have d1' := hB2.blk.cell (i := 1) rfl
    have e1' := hB2.blk.frozen 1
    have HF := (hB2.at_ p HC.out.le)
    have HF : Hid (Cu ((w1.setCell ⟨b, 2, none⟩ (.bool true)).setCell ⟨b, 1, none⟩ (.int .i64 p)) b g o cap B p true ∧ Keeps (· = b) w ((w1.setCell ⟨b, 2, none⟩ (.bool true)).setCell ⟨b, 1, none⟩ (.int .i64 p))) := ⟨HF.1, (hK1.trans hC1.bad_.2 fun _ _ e => e).trans HF.2 fun _ _ e => e⟩
    clear hC1 hK1 hB2
    go_wp2
    go_ret
    exact ⟨by simp; omega, HF.out.1, HF.out.2⟩
  · rw [if_neg h1] at hc
    obtain ⟨rfl, rfl⟩ := Prod.mk.inj hc
    have h1' : ¬ (1 : Int) < V := by omega
    clear h he hvt hc c1
    have c1 := HC.out.blk.cell (i := 1) rfl
    go_enter Tryz.func101, Tryz.ntmps101
    go_wp2_with fail
    refine HN.out.mono ?_
    rintro e w1 ⟨rfl, hC1, hK1⟩
    clear HN c1
    have HF : Hid (CuS w1 b g o cap B s' ∧ Keeps (· = b) w w1) := ⟨hC1, hK1⟩
    clear hC1 hK1
    go_wp2
    go_ret
    refine ⟨?_, HF.out⟩
    show Ending.returned (.bool ((V : Int) == 1)) = _
    have hb : ((V : Int) == 1) = (V == 1) := by rw [Bool.eq_iff_iff]; simp; omega
    rw [hb]

set_option maxHeartbeats 1000000 in
theorem ctext_any (b g o cap : Nat) (s : CS) (B : List UInt8) (w : World) (h : CuS w b g o cap B s) :
    Calls Tryz.prog 84 #[.pointer (some ⟨b, 0, none⟩)] w fun e w' => e = .returned (.string (cText B s).1) ∧ CuS w' b g o cap B (cText B s).2 ∧ Keeps (· = b) w w' := by
  obtain ⟨p, bad⟩ := s
  have HC : Hid (Cu w b g o cap B p bad) := h
  have c1 := HC.out.blk.cell (i := 1) rfl
  obtain ⟨V, s', he, hV⟩ := cNum4 B (p, bad)
  obtain ⟨p', bad'⟩ := s'
  have HN : Hid (Calls _ _ _ _ _) := num_call h (by omega) he
  obtain ⟨v, t, hvt⟩ : ∃ v t, cText B (p, bad) = (v, t) := ⟨_, _, rfl⟩
  rw [hvt]
  have hc : (if 255 < V then (⟨#[]⟩, p, true) else if cuB B p' bad' V then (⟨#[]⟩, p, true) else (⟨((B.drop p').take V).toArray⟩, cuP B p' bad' V, false)) = (v, t) := by rw [← hvt]; unfold cText; rw [he]
  by_cases h1 : 255 < V
  · rw [if_pos h1] at hc
    obtain ⟨rfl, rfl⟩ := Prod.mk.inj hc
    have h1' : (255 : Int) < V := by omega
    clear h he hvt hc
    go_enter Tryz.func84, Tryz.ntmps84
    go_wp2_with fail
    refine HN.out.mono ?_
    rintro e w1 ⟨rfl, hC1, hK1⟩
    clear HN c1
    have hC1 : Cu w1 b g o cap B p' bad' := hC1
    have d2 := hC1.blk.cell (i := 2) rfl
    have e2 := hC1.blk.frozen 2
    have HB2 : Hid (Cu (w1.setCell ⟨b, 2, none⟩ (.bool true)) b g o cap B p' true ∧ Keeps (· = b) w (w1.setCell ⟨b, 2, none⟩ (.bool true))) := ⟨(hC1.bad_).1, hK1.trans hC1.bad_.2 fun _ _ e => e⟩
    clear hC1 hK1
    go_wp2_with fail
    refine (take_bad b g o cap p' V B _ HB2.out.1).mono ?_
    rintro e w2 ⟨rfl, hC2, hK2⟩
    have HCV : Hid ((convert 28 9 (.slice none 0 0)).run Tryz.prog w2 = .ok (.string ⟨#[]⟩) w2) := run_text_seg none 0 [] (.inl rfl)
    have HK2 : Hid (Keeps (· = b) w w2) := HB2.out.2.trans hK2 fun _ _ e => e
    clear HB2 d2 e2 hK2
    have d2 := hC2.blk.cell (i := 2) rfl
    have d1 := hC2.blk.cell (i := 1) rfl
    have e1 := hC2.blk.frozen 1
    have HF : Hid (Cu (w2.setCell ⟨b, 1, none⟩ (.int .i64 p)) b g o cap B p true ∧ Keeps (· = b) w (w2.setCell ⟨b, 1, none⟩ (.int .i64 p))) := ⟨(hC2.at_ p HC.out.le).1, HK2.out.trans (hC2.at_ p HC.out.le).2 fun _ _ e => e⟩
    clear hC2
    go_wp2_with (refine wpList_convert_run rfl (.tmp 19) 28 9 rfl (.slice none 0 0) _ w2 rfl HCV.out ?_)
    go_ret
    exact ⟨rfl, HF.out⟩
  · rw [if_neg h1] at hc
    have h1' : ¬ (255 : Int) < V := by omega
    clear h he hvt
    have HCC : Hid (_ = (v, t)) := hc
    clear hc
    go_enter Tryz.func84, Tryz.ntmps84
    go_wp2_with fail
    refine HN.out.mono ?_
    rintro e w1 ⟨rfl, hC1, hK1⟩
    clear HN c1
    have hC1 : Cu w1 b g o cap B p' bad' := hC1
    have H1 : Hid (Cu w1 b g o cap B p' bad' ∧ Keeps (· = b) w w1) := ⟨hC1, hK1⟩
    clear hC1 hK1
    go_wp2_with fail
    refine (take_any' b g o cap p' V bad' B _ H1.out.1 (by omega)).mono ?_
    rintro e w2 ⟨⟨a, c, rfl, hs, hcm, _⟩, hC2, hK2⟩
    obtain ⟨p2, hp2⟩ : ∃ p2, cuP B p' bad' V = p2 := ⟨_, rfl⟩
    have HK2 : Hid (Keeps (· = b) w w2) := H1.out.2.trans hK2 fun _ _ e => e
    clear hK2 H1
    rw [hp2] at hC2
    by_cases hb : cuB B p' bad' V = true
    · rw [hb] at hs hC2 ⊢
      have hcc := HCC.out
      rw [if_pos hb] at hcc
      obtain ⟨rfl, rfl⟩ := Prod.mk.inj hcc
      have HCV : Hid ((convert 28 9 (.slice a 0 c)).run Tryz.prog w2 = .ok (.string ⟨#[]⟩) w2) := run_text_seg a c [] hs
      have d2 := hC2.blk.cell (i := 2) rfl
      have d1 := hC2.blk.cell (i := 1) rfl
      have e1 := hC2.blk.frozen 1
      have HF : Hid (Cu (w2.setCell ⟨b, 1, none⟩ (.int .i64 p)) b g o cap B p true ∧ Keeps (· = b) w (w2.setCell ⟨b, 1, none⟩ (.int .i64 p))) := ⟨(hC2.at_ p HC.out.le).1, HK2.out.trans (hC2.at_ p HC.out.le).2 fun _ _ e => e⟩
      clear hC2 hs HCC hcc hp2
      simp only [if_true]
      go_wp2_with (refine wpList_convert_run rfl (.tmp 19) 28 9 rfl (.slice a 0 c) _ w2 rfl HCV.out ?_)
      go_ret
      exact ⟨rfl, HF.out⟩
    · have hb' : cuB B p' bad' V = false := by simpa using hb
      rw [hb'] at hs hC2 ⊢
      have hcc := HCC.out
      rw [if_neg hb, hp2] at hcc
      obtain ⟨hv, rfl⟩ := Prod.mk.inj hcc
      have hlen : ((B.drop p').take V).length = V := by
        have : p' + V ≤ B.length := by simp [cuB] at hb'; omega
        rw [List.length_take, List.length_drop]; omega
      have hcv := run_text_seg (w := w2) a c ((B.drop p').take V) hs
      rw [hlen] at hcv
      rw [hv] at hcv
      have HCV : Hid ((convert 28 9 (.slice a V c)).run Tryz.prog w2 = .ok (.string v) w2) := hcv
      have d2 := hC2.blk.cell (i := 2) rfl
      have HF : Hid (Cu w2 b g o cap B p2 false ∧ Keeps (· = b) w w2) := ⟨hC2, HK2.out⟩
      clear hC2 hs HCC hcc hp2 hcv hv hlen
      simp only [Bool.false_eq_true, if_false]
      go_wp2_with (refine wpList_convert_run rfl (.tmp 19) 28 9 rfl (.slice a V c) _ w2 rfl HCV.out ?_)
      go_ret
      exact ⟨rfl, HF.out⟩
end Go.Proofs.YtjadpbkhfclldaaGreat
