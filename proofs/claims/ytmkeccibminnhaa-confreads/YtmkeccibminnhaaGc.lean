import Derived.Test.YtmkeccibminnhaaGb
namespace Go.Proofs.Ytmkeccibminnhaa
open Go.RowKit
set_option linter.unusedVariables false
set_option maxRecDepth 6000

theorem cu_u8 (B : List UInt8) (p : Nat) : (cuB B p false 1 = false ∧ rdU8 B p = .ok (cuV B p false 1, cuP B p false 1)) ∨ (cuB B p false 1 = true ∧ rdU8 B p = .error p ∧ cuP B p false 1 = p ∧ cuV B p false 1 = 0) := by
  unfold cuB rdU8 cuV cuP
  by_cases hl : B.length < p + 1
  · right; simp [hl]
  · left; simp [hl]
theorem cu_num (B : List UInt8) (p : Nat) : (cuB B p false 4 = false ∧ rdNum B p = .ok ((cuV B p false 4 : Nat), cuP B p false 4)) ∨ (cuB B p false 4 = true ∧ rdNum B p = .error p ∧ cuP B p false 4 = p ∧ cuV B p false 4 = 0) := by
  unfold cuB rdNum cuV cuP
  by_cases hl : B.length < p + 4
  · right; simp [hl]
  · left; simp [hl]
theorem cu_bad (B : List UInt8) (p n : Nat) : cuB B p true n = true ∧ cuP B p true n = p ∧ cuV B p true n = 0 := ⟨rfl, rfl, rfl⟩

/-- The cursor stands elsewhere. -/
theorem Cu.at_ {w : World} {b g o cap p : Nat} {B : List UInt8} {bad : Bool} (h : Cu w b g o cap B p bad) (q : Nat) (hq : q ≤ B.length) : Cu (w.setCell ⟨b, 1, none⟩ (.int .i64 q)) b g o cap B q bad ∧ Keeps (· = b) w (w.setCell ⟨b, 1, none⟩ (.int .i64 q)) := by
  have hK : Keeps (· = b) w (w.setCell ⟨b, 1, none⟩ (.int .i64 q)) := (Keeps.refl (· = b) w).setCell _ _ fun _ => rfl
  refine ⟨⟨?_, h.seg.keptB hK (fun hn y hy => by cases hy; exact h.ne hn), h.ne, h.cap, hq⟩, hK⟩
  have := h.blk.setCell 1 (.int .i64 q)
  exact this
theorem Cu.bad_ {w : World} {b g o cap p : Nat} {B : List UInt8} {bad : Bool} (h : Cu w b g o cap B p bad) : Cu (w.setCell ⟨b, 2, none⟩ (.bool true)) b g o cap B p true ∧ Keeps (· = b) w (w.setCell ⟨b, 2, none⟩ (.bool true)) := by
  have hK : Keeps (· = b) w (w.setCell ⟨b, 2, none⟩ (.bool true)) := (Keeps.refl (· = b) w).setCell _ _ fun _ => rfl
  refine ⟨⟨?_, h.seg.keptB hK (fun hn y hy => by cases hy; exact h.ne hn), h.ne, h.cap, h.le⟩, hK⟩
  have := h.blk.setCell 2 (.bool true)
  exact this

/-- Where the cursor stands, and whether it has stopped. -/
abbrev CS := Nat × Bool
def CuS (w : World) (b g o cap : Nat) (B : List UInt8) (s : CS) : Prop := Cu w b g o cap B s.1 s.2
def cNum (B : List UInt8) (n : Nat) (s : CS) : Nat × CS := (cuV B s.1 s.2 n, cuP B s.1 s.2 n, cuB B s.1 s.2 n)
def cInt (B : List UInt8) (s : CS) : Int × CS := (((cNum B 4 s).1 : Nat), (cNum B 4 s).2)
def cSrc (B : List UInt8) (s : CS) : Bool × CS := if 1 < (cNum B 1 s).1 then (false, s.1, true) else ((cNum B 1 s).1 == 1, (cNum B 1 s).2)
def cText (B : List UInt8) (s : CS) : ByteArray × CS :=
  if 255 < (cNum B 4 s).1 then (⟨#[]⟩, s.1, true)
  else if cuB B (cNum B 4 s).2.1 (cNum B 4 s).2.2 (cNum B 4 s).1 then (⟨#[]⟩, s.1, true)
  else (⟨((B.drop (cNum B 4 s).2.1).take (cNum B 4 s).1).toArray⟩, cuP B (cNum B 4 s).2.1 (cNum B 4 s).2.2 (cNum B 4 s).1, false)
def cBind {α β : Type} (c : CS → α × CS) (f : α → CS → β × CS) (s : CS) : β × CS := f (c s).1 (c s).2
def cMany {α : Type} (f : CS → α × CS) : Nat → CS → List α × CS
  | 0, s => ([], s)
  | n + 1, s => if (cMany f n s).2.2 then cMany f n s else ((cMany f n s).1 ++ [(f (cMany f n s).2).1], (f (cMany f n s).2).2)
def cList {α : Type} (B : List UInt8) (f : CS → α × CS) (s : CS) : List α × CS := cMany f (cNum B 1 s).1 (cNum B 1 s).2
def cWin (B : List UInt8) (s : CS) : Win × CS := cBind (cInt B) (fun a => cBind (cInt B) fun b => cBind (cInt B) fun c s => (⟨a - 1, b, c⟩, s)) s
def cRgn (B : List UInt8) (s : CS) : Rgn × CS := cBind (cInt B) (fun a => cBind (cInt B) fun b => cBind (cInt B) fun c => cBind (cInt B) fun d s => (⟨a, b, c, d⟩, s)) s
def cChn (B : List UInt8) (s : CS) : Chn × CS := cBind (cInt B) (fun a => cBind (cInt B) fun b => cBind (cInt B) fun c s => (⟨a, b, c⟩, s)) s
def cPrt (B : List UInt8) (s : CS) : Prt × CS := cBind (cInt B) (fun a => cBind (cSrc B) fun b s => (⟨a, b⟩, s)) s
def cCore (B : List UInt8) (s : CS) : List Win × CS := cList B (cWin B) s
def cPar (B : List UInt8) (s : CS) : PPar × CS := cBind (cText B) (fun n => cBind (cInt B) fun a => cBind (cInt B) fun b => cBind (cInt B) fun c => cBind (cInt B) fun d => cBind (cInt B) fun e =>
  cBind (cList B (cRgn B)) fun r => cBind (cList B (cPrt B)) fun q s => (⟨n, a, b, c, d, e, r, q⟩, s)) s
def cCfg (B : List UInt8) (s : CS) : PCfg × CS := cBind (cInt B) (fun a => cBind (cInt B) fun b => cBind (cInt B) fun c => cBind (cInt B) fun d =>
  cBind (cList B (cCore B)) fun x => cBind (cList B (cPar B)) fun y => cBind (cList B (cChn B)) fun z s => (⟨a, b, c, d, x, y, z⟩, s)) s

/-- The cursor reads as the reader reads. -/
def It {α : Type} (c : CS → α × CS) (rd : Nat → Rs α) : Prop :=
  (∀ p, (c (p, true)).2 = (p, true)) ∧ ∀ p, (∃ x q, rd p = .ok (x, q) ∧ c (p, false) = (x, q, false)) ∨ (∃ q, rd p = .error q ∧ (c (p, false)).2 = (q, true))
theorem It.pure {α : Type} (x : α) : It (fun s => (x, s)) (fun p => .ok (x, p)) := ⟨fun _ => rfl, fun p => .inl ⟨x, p, rfl, rfl⟩⟩
theorem It.bind {α β : Type} {c : CS → α × CS} {rd : Nat → Rs α} {f : α → CS → β × CS} {rf : α → Nat → Rs β} (h : It c rd) (hf : ∀ x, It (f x) (rf x)) : It (cBind c f) (fun p => (rd p).bind fun r => rf r.1 r.2) := by
  refine ⟨fun p => ?_, fun p => ?_⟩
  · show (f (c (p, true)).1 (c (p, true)).2).2 = _
    rw [h.1 p]; exact (hf _).1 p
  · rcases h.2 p with ⟨x, q, h1, h2⟩ | ⟨q, h1, h2⟩
    · rcases (hf x).2 q with ⟨y, r, h3, h4⟩ | ⟨r, h3, h4⟩
      · exact .inl ⟨y, r, by show (rd p).bind _ = _; rw [h1]; exact h3, by show f (c (p, false)).1 (c (p, false)).2 = _; rw [h2]; exact h4⟩
      · exact .inr ⟨r, by show (rd p).bind _ = _; rw [h1]; exact h3, by show (f (c (p, false)).1 (c (p, false)).2).2 = _; rw [h2]; exact h4⟩
    · exact .inr ⟨q, by show (rd p).bind _ = _; rw [h1]; rfl, by show (f (c (p, false)).1 (c (p, false)).2).2 = _; rw [h2]; exact (hf _).1 q⟩
theorem It.many {α : Type} {c : CS → α × CS} {rd : Nat → Rs α} (h : It c rd) : ∀ n, It (cMany c n) (rdMany rd n) := by
  intro n
  induction n with
  | zero => exact ⟨fun _ => rfl, fun p => .inl ⟨[], p, rfl, rfl⟩⟩
  | succ n ih =>
    refine ⟨fun p => ?_, fun p => ?_⟩
    · unfold cMany; rw [if_pos (by rw [ih.1 p])]; exact ih.1 p
    · rcases ih.2 p with ⟨x, q, h1, h2⟩ | ⟨q, h1, h2⟩
      · rcases h.2 q with ⟨y, r, h3, h4⟩ | ⟨r, h3, h4⟩
        · refine .inl ⟨x ++ [y], r, by unfold rdMany; rw [h1]; show (rd q).bind _ = _; rw [h3]; rfl, ?_⟩
          unfold cMany; rw [h2]; show (if false = true then _ else (x ++ [(c (q, false)).1], (c (q, false)).2)) = _; rw [h4]; rfl
        · refine .inr ⟨r, by unfold rdMany; rw [h1]; show (rd q).bind _ = _; rw [h3]; rfl, ?_⟩
          unfold cMany; rw [h2]; show (if false = true then _ else (x ++ [(c (q, false)).1], (c (q, false)).2)).2 = _; exact h4
      · refine .inr ⟨q, by unfold rdMany; rw [h1]; rfl, ?_⟩
        unfold cMany; rw [if_pos (by rw [h2])]; exact h2
theorem It.u8 (B : List UInt8) : It (cNum B 1) (rdU8 B) := ⟨fun _ => rfl, fun p => by
  rcases cu_u8 B p with ⟨h1, h2⟩ | ⟨h1, h2, h3, h4⟩
  · exact .inl ⟨_, _, h2, by show (_, _, cuB B p false 1) = _; rw [h1]⟩
  · exact .inr ⟨p, h2, by show (cuP B p false 1, cuB B p false 1) = _; rw [h1, h3]⟩⟩
theorem It.int (B : List UInt8) : It (cInt B) (rdNum B) := ⟨fun _ => rfl, fun p => by
  rcases cu_num B p with ⟨h1, h2⟩ | ⟨h1, h2, h3, h4⟩
  · exact .inl ⟨_, _, h2, by show (_, _, cuB B p false 4) = _; rw [h1]; rfl⟩
  · exact .inr ⟨p, h2, by show (cuP B p false 4, cuB B p false 4) = _; rw [h1, h3]⟩⟩
theorem It.src (B : List UInt8) : It (cSrc B) (rdSrc B) := by
  refine ⟨fun _ => rfl, fun p => ?_⟩
  rcases (It.u8 B).2 p with ⟨x, q, h1, h2⟩ | ⟨q, h1, h2⟩
  · by_cases hx : 1 < x
    · exact .inr ⟨p, by unfold rdSrc; rw [h1]; show (if 1 < x then _ else _) = _; rw [if_pos hx], by unfold cSrc; rw [h2]; show (if 1 < x then _ else _ : Bool × CS).2 = _; rw [if_pos hx]⟩
    · exact .inl ⟨x == 1, q, by unfold rdSrc; rw [h1]; show (if 1 < x then _ else _) = _; rw [if_neg hx], by unfold cSrc; rw [h2]; show (if 1 < x then _ else _ : Bool × CS) = _; rw [if_neg hx]⟩
  · have h0 : (cNum B 1 (p, false)).1 = 0 := by
      rcases cu_u8 B p with ⟨_, h3⟩ | ⟨_, _, _, h3⟩
      · rw [h3] at h1; cases h1
      · exact h3
    exact .inr ⟨q, by unfold rdSrc; rw [h1]; rfl, by unfold cSrc; rw [h0]; exact h2⟩
theorem It.list {α : Type} {B : List UInt8} {c : CS → α × CS} {rd : Nat → Rs α} (h : It c rd) : It (cList B c) (rdList B rd) := (It.u8 B).bind fun n => h.many n
theorem It.win (B : List UInt8) : It (cWin B) (rdWin B) := (It.int B).bind fun a => (It.int B).bind fun b => (It.int B).bind fun c => It.pure _
theorem It.rgn (B : List UInt8) : It (cRgn B) (rdRgn B) := (It.int B).bind fun a => (It.int B).bind fun b => (It.int B).bind fun c => (It.int B).bind fun d => It.pure _
theorem It.chn (B : List UInt8) : It (cChn B) (rdChn B) := (It.int B).bind fun a => (It.int B).bind fun b => (It.int B).bind fun c => It.pure _
theorem It.prt (B : List UInt8) : It (cPrt B) (rdPrt B) := (It.int B).bind fun a => (It.src B).bind fun b => It.pure _
theorem It.core (B : List UInt8) : It (cCore B) (rdCore B) := (It.win B).list
theorem It.text (B : List UInt8) : It (cText B) (rdText B) := by
  refine ⟨fun p => ?_, fun p => ?_⟩
  · unfold cText
    rw [show (cNum B 4 (p, true)) = (0, p, true) from rfl]; rfl
  · by_cases h4 : B.length < p + 4
    · refine .inr ⟨p, ?_, ?_⟩
      · unfold rdText; rw [if_neg]; unfold txtE; simp [h4]
      · have : cNum B 4 (p, false) = (0, p, true) := by unfold cNum cuV cuP cuB; simp [h4]
        unfold cText; rw [this]; rfl
    · have hn : cNum B 4 (p, false) = (txtN B p, p + 4, false) := by unfold cNum cuV cuP cuB txtN; simp [h4]
      obtain ⟨n, hN⟩ : ∃ n, txtN B p = n := ⟨_, rfl⟩
      rw [hN] at hn
      by_cases h5 : 255 < n
      · refine .inr ⟨p, ?_, ?_⟩
        · unfold rdText; rw [if_neg]; unfold txtE; rw [if_neg (by simp), if_neg h4, hN, if_pos (by omega)]; decide
        · unfold cText; rw [hn]; show (if 255 < n then _ else _ : ByteArray × CS).2 = _; rw [if_pos h5]
      · by_cases h6 : B.length < p + 4 + n
        · refine .inr ⟨p, ?_, ?_⟩
          · unfold rdText; rw [if_neg]; unfold txtE; rw [if_neg (by simp), if_neg h4, hN, if_neg (by omega), if_pos h6]; decide
          · unfold cText; rw [hn]; show (if 255 < n then _ else if cuB B (p + 4) false n = true then _ else _ : ByteArray × CS).2 = _; rw [if_neg h5, if_pos (by unfold cuB; simp; omega)]
        · have hE : txtE B p 0 255 = 0 := by unfold txtE; rw [if_neg (by simp), if_neg h4, hN, if_neg (by omega), if_neg h6]
          refine .inl ⟨⟨((B.drop (p + 4)).take n).toArray⟩, p + 4 + n, ?_, ?_⟩
          · unfold rdText; rw [if_pos hE]; unfold txtV txtP; rw [if_pos hE, if_pos hE, hN]
          · unfold cText; rw [hn]; show (if 255 < n then _ else if cuB B (p + 4) false n = true then _ else (_, cuP B (p + 4) false n, false) : ByteArray × CS) = _; rw [if_neg h5, if_neg (by unfold cuB; simp; omega)]
            unfold cuP; simp [h6]
theorem It.par (B : List UInt8) : It (cPar B) (rdPar B) := (It.text B).bind fun n => (It.int B).bind fun a => (It.int B).bind fun b => (It.int B).bind fun c => (It.int B).bind fun d => (It.int B).bind fun e =>
  (It.rgn B).list.bind fun r => (It.prt B).list.bind fun q => It.pure _
theorem It.cfg (B : List UInt8) : It (cCfg B) (rdCfg B) := by
  have hx : It (cList B (cCore B)) (rdList B (rdCore B)) := (It.core B).list
  have hy : It (cList B (cPar B)) (rdList B (rdPar B)) := (It.par B).list
  have hz : It (cList B (cChn B)) (rdList B (rdChn B)) := (It.chn B).list
  exact (It.int B).bind fun a => (It.int B).bind fun b => (It.int B).bind fun c => (It.int B).bind fun d => hx.bind fun x => hy.bind fun y => hz.bind fun z => It.pure _
theorem cuV_lt (B : List UInt8) (p n : Nat) (bad : Bool) : cuV B p bad n < 256 ^ n := by
  unfold cuV
  split
  · exact Nat.pow_pos (by decide)
  · split
    · exact Nat.pow_pos (by decide)
    · refine Nat.lt_of_lt_of_le (highN_lt _) (Nat.pow_le_pow_right (by decide) ?_)
      rw [List.length_take]; exact Nat.min_le_left _ _
theorem cNum4 (B : List UInt8) (s : CS) : ∃ (V : Nat) (s' : CS), cNum B 4 s = (V, s') ∧ V < 4294967296 := ⟨_, _, rfl, cuV_lt B s.1 4 s.2⟩
theorem cNum1 (B : List UInt8) (s : CS) : ∃ (V : Nat) (s' : CS), cNum B 1 s = (V, s') ∧ V < 256 := ⟨_, _, rfl, cuV_lt B s.1 1 s.2⟩
/-- The numbers, by where they leave the cursor. -/
theorem num_call {B : List UInt8} {s s' : CS} {V n : Nat} {w : World} {b g o cap : Nat} (h : CuS w b g o cap B s) (hn : n ≤ 4) (he : cNum B n s = (V, s')) :
    Calls Try.prog 27 #[.pointer (some ⟨b, 0, none⟩), .int .i64 n] w fun e w' => e = .returned (.int .i64 V) ∧ CuS w' b g o cap B s' ∧ Keeps (· = b) w w' := by
  have h1 := cnumber_any b g o cap s.1 n s.2 B w h hn
  have e1 : cuV B s.1 s.2 n = V := congrArg (·.1) he
  have e2 : (cuP B s.1 s.2 n, cuB B s.1 s.2 n) = s' := congrArg (·.2) he
  refine h1.mono ?_
  rintro e w' ⟨h2, h3, h4⟩
  rw [e1] at h2
  exact ⟨h2, by rw [← e2]; exact h3, h4⟩
end Go.Proofs.Ytmkeccibminnhaa
