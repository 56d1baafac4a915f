import Derived.Test.YtmkeccibminnhaaPv
import Derived.Test.YtmkeccibminnhaaRn
namespace Go.Proofs.Ytmkeccibminnhaa
open Go.RowKit
set_option linter.unusedVariables false

def Win.e2 (x : Win) : List UInt8 := nbs [x.p + 1, x.u, x.s]
def Win.d2 (x : Win) : Bool := wNs [x.p + 1, x.u, x.s]
def PPar.e (x : PPar) : List UInt8 := nameB x.name ++ (nbs [x.entry, x.action, x.restarts, x.inputs, x.outputs] ++ (listB Rgn.e x.rs ++ listB Prt.e x.ps))
def PPar.d (x : PPar) : Bool := nameW x.name || (wNs [x.entry, x.action, x.restarts, x.inputs, x.outputs] || (listW Rgn.d x.rs || listW Prt.d x.ps))
def PCfg.e (x : PCfg) : List UInt8 := nbs [x.frames, x.major, x.kernel, x.room] ++ (listB (listB Win.e2) x.cs ++ (listB PPar.e x.ps ++ listB Chn.e x.hs))
def PCfg.d (x : PCfg) : Bool := wNs [x.frames, x.major, x.kernel, x.room] || (listW (listW Win.d2) x.cs || (listW PPar.d x.ps || listW Chn.d x.hs))

theorem bind_bind {α β γ : Type} (x : Rs α) (f : α × Nat → Rs β) (g : β × Nat → Rs γ) : (x.bind f).bind g = x.bind fun a => (f a).bind g := by cases x <;> rfl
theorem ok_bind {α β : Type} (v : α × Nat) (f : α × Nat → Rs β) : (Except.ok v : Rs α).bind f = f v := rfl
theorem wN_bd {n : Int} (h : wN n = false) : 0 ≤ n ∧ n ≤ 4294967295 := by unfold wN at h; simp at h; omega

theorem gWin : Good rdWin Win.e2 Win.d2 := by
  refine ((gNum.seq (gNum.seq gNum)).iso (fun t => (⟨t.1 - 1, t.2.1, t.2.2⟩ : Win)) (fun x => (x.p + 1, x.u, x.s)) ?_ ?_).cong ?_ ?_ ?_
  · rintro ⟨a, b, c⟩ _; simp
  · rintro ⟨a, b, c⟩ _; simp
  · intro B p; simp only [rdWin, bind_bind, ok_bind]
  · intro x; simp [Win.e2, nbs]
  · intro x; simp [Win.d2, wNs]
theorem gRgn : Good rdRgn Rgn.e Rgn.d := by
  refine ((gNum.seq (gNum.seq (gNum.seq gNum))).iso (fun t => (⟨t.1, t.2.1, t.2.2.1, t.2.2.2⟩ : Rgn)) (fun x => (x.page, x.pages, x.frame, x.rights)) ?_ ?_).cong ?_ ?_ ?_
  · rintro ⟨a, b, c, d⟩ _; simp
  · rintro ⟨a, b, c, d⟩ _; simp
  · intro B p; simp only [rdRgn, bind_bind, ok_bind]
  · intro x; simp [Rgn.e, Rgn.ns, nbs]
  · intro x; simp [Rgn.d, Rgn.ns, wNs]
theorem gChn : Good rdChn Chn.e Chn.d := by
  refine ((gNum.seq (gNum.seq gNum)).iso (fun t => (⟨t.1, t.2.1, t.2.2⟩ : Chn)) (fun x => (x.kind, x.words, x.depth)) ?_ ?_).cong ?_ ?_ ?_
  · rintro ⟨a, b, c⟩ _; simp
  · rintro ⟨a, b, c⟩ _; simp
  · intro B p; simp only [rdChn, bind_bind, ok_bind]
  · intro x; simp [Chn.e, Chn.ns, nbs]
  · intro x; simp [Chn.d, Chn.ns, wNs]
theorem gPrt : Good rdPrt Prt.e Prt.d := by
  refine ((gNum.seq gSrc).iso (fun t => (⟨t.1, t.2⟩ : Prt)) (fun x => (x.ch, x.src)) ?_ ?_).cong ?_ ?_ ?_
  · rintro ⟨a, b⟩ _; simp
  · rintro ⟨a, b⟩ _; simp
  · intro B p; simp only [rdPrt, bind_bind, ok_bind]
  · intro x; simp [Prt.e, nbs]
  · intro x; simp [Prt.d, wNs]
theorem gCore : Good rdCore (listB Win.e2) (listW Win.d2) := gWin.list
theorem gPar : Good rdPar PPar.e PPar.d := by
  refine ((gText.seq (gNum.seq (gNum.seq (gNum.seq (gNum.seq (gNum.seq (gRgn.list.seq gPrt.list))))))).iso (fun t => (⟨t.1, t.2.1, t.2.2.1, t.2.2.2.1, t.2.2.2.2.1, t.2.2.2.2.2.1, t.2.2.2.2.2.2.1, t.2.2.2.2.2.2.2⟩ : PPar))
    (fun x => (x.name, x.entry, x.action, x.restarts, x.inputs, x.outputs, x.rs, x.ps)) ?_ ?_).cong ?_ ?_ ?_
  · rintro ⟨s, a, b, c, d, e, r, q⟩ _; simp
  · rintro ⟨s, a, b, c, d, e, r, q⟩ _; simp
  · intro B p; simp only [rdPar, bind_bind, ok_bind]
  · intro x; simp [PPar.e, nbs]
  · intro x; simp [PPar.d, wNs, Bool.or_assoc]
theorem gCfg : Good rdCfg PCfg.e PCfg.d := by
  refine ((gNum.seq (gNum.seq (gNum.seq (gNum.seq (gCore.list.seq (gPar.list.seq gChn.list)))))).iso (fun t => (⟨t.1, t.2.1, t.2.2.1, t.2.2.2.1, t.2.2.2.2.1, t.2.2.2.2.2.1, t.2.2.2.2.2.2⟩ : PCfg))
    (fun x => (x.frames, x.major, x.kernel, x.room, x.cs, x.ps, x.hs)) ?_ ?_).cong ?_ ?_ ?_
  · rintro ⟨a, b, c, d, e, r, q⟩ _; simp
  · rintro ⟨a, b, c, d, e, r, q⟩ _; simp
  · intro B p; simp only [rdCfg, bind_bind, ok_bind]
  · intro x; simp [PCfg.e, nbs]
  · intro x; simp [PCfg.d, wNs, Bool.or_assoc]
theorem gMark : Good rdMark (fun _ => lowB 4 826493762) (fun _ => false) := by
  have hnb : nb 826493762 = lowB 4 826493762 := rfl
  refine ⟨?_, ?_, ?_⟩
  · intro B p u _ hs
    unfold rdMark
    rw [gNum.fwd (x := 826493762) (by decide) (by rw [hnb]; exact hs)]
    rfl
  · intro B p q u hp hr
    obtain ⟨⟨n, q1⟩, r1, hr⟩ := bind_eq_ok hr
    obtain ⟨k1, k2, rfl⟩ := gNum.bwd hp r1
    simp only at hr
    split at hr
    · rename_i hn
      cases hr
      have hn' : n = 826493762 := hn
      subst hn'
      exact ⟨rfl, k2, rfl⟩
    · cases hr
  · intro B p q hp hr
    rcases bind_eq_err hr with r1 | ⟨⟨n, q1⟩, r1, hr⟩
    · exact gNum.err hp r1
    · simp only at hr
      split at hr
      · cases hr
      · cases hr; exact hp
end Go.Proofs.Ytmkeccibminnhaa
