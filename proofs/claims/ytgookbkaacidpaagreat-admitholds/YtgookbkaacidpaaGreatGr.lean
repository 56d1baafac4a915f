import Derived.Test.YtgookbkaacidpaaGreatGd
namespace Go.Proofs.YtgookbkaacidpaaGreat
open Go.RowKit
set_option linter.unusedVariables false
set_option linter.unusedSimpArgs false
set_option maxRecDepth 6000

/-- The same partition but for where its lists lie and in which order its regions stand. -/
structure Par.Rel (P Q : Par) : Prop where
  name : Q.name = P.name
  entry : Q.entry = P.entry
  action : Q.action = P.action
  restarts : Q.restarts = P.restarts
  inputs : Q.inputs = P.inputs
  outputs : Q.outputs = P.outputs
  rs : Q.rs.Perm P.rs
  ps : Q.ps = P.ps
structure Cfg.Rel (x y : Cfg) : Prop where
  frames : y.frames = x.frames
  major : y.major = x.major
  kernel : y.kernel = x.kernel
  room : y.room = x.room
  clen : y.cs.length = x.cs.length
  cs : ∀ (j : Nat) (X Y : Core), x.cs[j]? = some X → y.cs[j]? = some Y → Y.ws.Perm X.ws
  plen : y.ps.length = x.ps.length
  ps : ∀ (j : Nat) (P Q : Par), x.ps[j]? = some P → y.ps[j]? = some Q → P.Rel Q
  hs : y.hs = x.hs
theorem get_of_len {α β : Type} {xs : List α} {ys : List β} (h : ys.length = xs.length) {j : Nat} {b : β} (hj : ys[j]? = some b) : ∃ a, xs[j]? = some a :=
  ⟨_, List.getElem?_eq_getElem (by have := (List.getElem?_eq_some_iff.1 hj).1; omega)⟩
theorem mem_take_get {α : Type} {xs : List α} {n : Nat} {a : α} : a ∈ xs.take n ↔ ∃ j, j < n ∧ xs[j]? = some a := by
  constructor
  · intro h
    obtain ⟨j, hj⟩ := List.getElem?_of_mem h
    rw [List.getElem?_take] at hj
    split at hj
    · exact ⟨j, by assumption, hj⟩
    · cases hj
  · rintro ⟨j, hj, ha⟩
    have : (xs.take n)[j]? = some a := by rw [List.getElem?_take, if_pos hj]; exact ha
    exact List.mem_of_getElem? this
theorem Rn.meets_comm (r o : Rn) : r.meets o = o.meets r := by unfold Rn.meets; rw [Bool.and_comm]
theorem cyc_perm {l l' : List Win} (h : l.Perm l') : cyc l = cyc l' := by
  induction h with
  | nil => rfl
  | cons x _ ih => simp only [cyc, ih]
  | swap x y l => simp only [cyc]; omega
  | trans _ _ h1 h2 => rw [h1, h2]
theorem any_perm {α : Type} {l l' : List α} (h : l.Perm l') (p : α → Bool) : l.any p = l'.any p := by
  rw [Bool.eq_iff_iff, List.any_eq_true, List.any_eq_true]
  constructor <;> rintro ⟨a, ha, hp⟩
  · exact ⟨a, h.mem_iff.1 ha, hp⟩
  · exact ⟨a, h.mem_iff.2 ha, hp⟩
section
variable {x y : Cfg} (h : x.Rel y)
include h
theorem Cfg.Rel.symm : y.Rel x :=
  ⟨h.frames.symm, h.major.symm, h.kernel.symm, h.room.symm, h.clen.symm, fun j X Y hX hY => (h.cs j Y X hY hX).symm, h.plen.symm, fun j P Q hP hQ => by
    have := h.ps j Q P hQ hP
    exact ⟨this.name.symm, this.entry.symm, this.action.symm, this.restarts.symm, this.inputs.symm, this.outputs.symm, this.rs.symm, this.ps.symm⟩, h.hs.symm⟩
theorem Cfg.Rel.psmap : y.ps.map (·.ps) = x.ps.map (·.ps) := by
  apply List.ext_getElem?
  intro j
  rw [List.getElem?_map, List.getElem?_map]
  cases hq : y.ps[j]? with
  | none =>
    have := List.getElem?_eq_none_iff.1 hq
    rw [List.getElem?_eq_none (by have := h.plen; omega)]
  | some Q =>
    obtain ⟨P, hP⟩ := get_of_len h.plen hq
    rw [hP, Option.map_some, Option.map_some, (h.ps j P Q hP hq).ps]
theorem Cfg.Rel.cnt (q : Prt) : cntQ q y.ps = cntQ q x.ps := by
  unfold cntQ
  rw [List.flatMap_def, List.flatMap_def, h.psmap]
theorem Cfg.Rel.hasW (p : Int) (n : Nat) : hasW p (y.cs.take n) = hasW p (x.cs.take n) := by
  unfold Go.Proofs.YtgookbkaacidpaaGreat.hasW
  split
  · rfl
  · rw [Bool.eq_iff_iff, List.any_eq_true, List.any_eq_true]
    constructor <;> rintro ⟨X, hX, hp⟩
    · obtain ⟨j, hj, hx⟩ := mem_take_get.1 hX
      obtain ⟨X', hX'⟩ := get_of_len h.clen hx
      exact ⟨X', mem_take_get.2 ⟨j, hj, hX'⟩, by rw [← any_perm (h.cs j X' X hX' hx)]; exact hp⟩
    · obtain ⟨j, hj, hx⟩ := mem_take_get.1 hX
      obtain ⟨X', hX'⟩ := get_of_len h.clen.symm hx
      exact ⟨X', mem_take_get.2 ⟨j, hj, hX'⟩, by rw [any_perm (h.cs j X X' hx hX')]; exact hp⟩
theorem Cfg.Rel.rgns (f : Rgn → Prop) (n : Nat) (hf : ∀ P ∈ x.ps.take n, ∀ s ∈ P.rs, f s) : ∀ Q ∈ y.ps.take n, ∀ s ∈ Q.rs, f s := by
  intro Q hQ s hs
  obtain ⟨j, hj, hq⟩ := mem_take_get.1 hQ
  obtain ⟨P, hP⟩ := get_of_len h.plen hq
  exact hf P (mem_take_get.2 ⟨j, hj, hP⟩) s ((h.ps j P Q hP hq).rs.mem_iff.1 hs)
theorem Cfg.Rel.gp {p : Nat} {P Q : Par} (hP : x.ps[p]? = some P) (hQ : y.ps[p]? = some Q) (g : GP x p P) : GP y p Q := by
  have r := h.ps p P Q hP hQ
  refine ⟨by rw [r.name]; exact g.name, fun Q' hQ' => ?_, by rw [r.action, r.restarts]; exact g.act, by rw [r.inputs, r.outputs]; exact g.dev, by rw [r.rs.length_eq]; exact g.rlen, fun s hs => by rw [h.frames]; exact g.rok s (r.rs.mem_iff.1 hs), ?_, ?_, fun Q' hQ' s hs t ht => ?_, ?_, by rw [r.ps]; exact g.plen, by rw [r.ps, h.hs]; exact g.pch⟩
  · obtain ⟨j, hj, hq⟩ := mem_take_get.1 hQ'
    obtain ⟨P', hP'⟩ := get_of_len h.plen hq
    rw [(h.ps j P' Q' hP' hq).name, r.name]
    exact g.other P' (mem_take_get.2 ⟨j, hj, hP'⟩)
  · exact (r.rs.pairwise_iff (fun {a b} hab => by rw [Rn.meets_comm]; exact hab)).2 g.pages
  · exact (r.rs.pairwise_iff (fun {a b} hab => by rw [Rn.meets_comm]; exact hab)).2 g.frames
  · exact h.rgns (fun s => s.fr.meets t.fr = false) p (fun P' hP' s hs => g.ahead P' hP' s hs t (r.rs.mem_iff.1 ht)) Q' hQ' s hs
  · have := g.beg
    unfold Par.begB at this ⊢
    rw [r.entry, any_perm r.rs]
    exact this
theorem Cfg.Rel.gh {n : Nat} {c : Chn} (g : GH x n c) : GH y n c := ⟨g.ok, by rw [h.cnt]; exact g.src, by rw [h.cnt]; exact g.dst⟩
theorem Cfg.Rel.gc {n : Nat} {X Y : Core} (hX : x.cs[n]? = some X) (hY : y.cs[n]? = some Y) (g : GC x n X) : GC y n Y := by
  have r := h.cs n X Y hX hY
  exact ⟨by rw [r.length_eq]; exact g.len, fun v hv => by rw [h.plen]; exact g.par v (r.mem_iff.1 hv), fun v hv => g.use v (r.mem_iff.1 hv), fun v hv => g.slk v (r.mem_iff.1 hv), fun v hv => by rw [h.hasW]; exact g.one v (r.mem_iff.1 hv), by rw [cyc_perm r, h.major]; exact g.sum⟩
theorem Cfg.Rel.hit : y.hitB = x.hitB := by
  unfold Cfg.hitB
  rw [h.kernel, h.room, Bool.eq_iff_iff, List.any_eq_true, List.any_eq_true]
  constructor <;> rintro ⟨P, hP, hp⟩
  · obtain ⟨j, hj⟩ := List.getElem?_of_mem hP
    obtain ⟨Q, hQ⟩ := get_of_len h.plen hj
    exact ⟨Q, List.mem_of_getElem? hQ, by rw [← any_perm (h.ps j Q P hQ hj).rs]; exact hp⟩
  · obtain ⟨j, hj⟩ := List.getElem?_of_mem hP
    obtain ⟨Q, hQ⟩ := get_of_len h.plen.symm hj
    exact ⟨Q, List.mem_of_getElem? hQ, by rw [any_perm (h.ps j P Q hj hQ).rs]; exact hp⟩
theorem Cfg.Rel.rtSz (i : Nat) : rtSz y i = rtSz x i := by
  unfold Go.Proofs.YtgookbkaacidpaaGreat.rtSz
  cases hq : y.ps[i]? with
  | none =>
    have := List.getElem?_eq_none_iff.1 hq
    rw [List.getElem?_eq_none (by have := h.plen; omega)]
  | some Q =>
    obtain ⟨P, hP⟩ := get_of_len h.plen hq
    rw [hP]
    have r := h.ps i P Q hP hq
    show 16 + 16 * (cntT Q.rs 16 : Int) = 16 + 16 * (cntT P.rs 16 : Int)
    have : cntT Q.rs 16 = cntT P.rs 16 := by
      unfold cntT
      have e : hasT Q.rs = hasT P.rs := by
        funext t
        unfold hasT
        exact any_perm r.rs _
      rw [e]
    rw [this]
theorem Cfg.Rel.ends (b : Bool) (n : Int) (i : Nat) : endsL b n y.ps i = endsL b n x.ps i := by
  unfold endsL
  congr 1
  funext p
  cases hq : y.ps[p]? with
  | none =>
    have := List.getElem?_eq_none_iff.1 hq
    rw [List.getElem?_eq_none (by have := h.plen; omega)]
  | some Q =>
    obtain ⟨P, hP⟩ := get_of_len h.plen hq
    rw [hP]
    show portsOf b n p Q.ps Q.ps.length = portsOf b n p P.ps P.ps.length
    rw [(h.ps p P Q hP hq).ps]
theorem Cfg.Rel.chSz (i : Nat) : chSz y i = chSz x i := by
  unfold Go.Proofs.YtgookbkaacidpaaGreat.chSz dstsOf
  rw [h.hs, h.ends, h.plen]
theorem Cfg.Rel.chAt (b : Int) (n : Nat) : chAt y b n = chAt x b n := by
  induction n with
  | zero => rfl
  | succ n ih => show Go.Proofs.YtgookbkaacidpaaGreat.chAt y b n + Go.Proofs.YtgookbkaacidpaaGreat.chSz y n = _; rw [ih, h.chSz]; rfl
theorem Cfg.Rel.rtAt (b : Int) (n : Nat) : rtAt y b n = rtAt x b n := by
  induction n with
  | zero => rfl
  | succ n ih => show Go.Proofs.YtgookbkaacidpaaGreat.rtAt y b n + Go.Proofs.YtgookbkaacidpaaGreat.rtSz y n = _; rw [ih, h.rtSz]; rfl
theorem Cfg.Rel.endW : y.endW = x.endW := by
  unfold Cfg.endW rtB chE chB
  rw [h.rtAt, h.chAt, h.kernel, h.plen, h.hs]
theorem Cfg.Rel.mayB : y.mayB = x.mayB := by
  have e1 : y.ps.all (Par.mayB y.hs.length) = x.ps.all (Par.mayB x.hs.length) := by
    rw [Bool.eq_iff_iff, List.all_eq_true, List.all_eq_true]
    have key : ∀ P Q : Par, P.Rel Q → Par.mayB y.hs.length Q = Par.mayB x.hs.length P := fun P Q r => by
      have ea : Q.rs.all Rgn.inB = P.rs.all Rgn.inB := by
        rw [Bool.eq_iff_iff, List.all_eq_true, List.all_eq_true]
        constructor <;> intro hh s hs
        · exact hh s (r.rs.mem_iff.2 hs)
        · exact hh s (r.rs.mem_iff.1 hs)
      unfold Par.mayB
      rw [r.rs.length_eq, r.ps, h.hs, ea]
    constructor <;> intro hh P hP
    · obtain ⟨j, hj⟩ := List.getElem?_of_mem hP
      obtain ⟨Q, hQ⟩ := get_of_len h.plen.symm hj
      rw [← key P Q (h.ps j P Q hj hQ)]
      exact hh Q (List.mem_of_getElem? hQ)
    · obtain ⟨j, hj⟩ := List.getElem?_of_mem hP
      obtain ⟨Q, hQ⟩ := get_of_len h.plen hj
      rw [key Q P (h.ps j Q P hQ hj)]
      exact hh Q (List.mem_of_getElem? hQ)
  have e2 : (List.range y.hs.length).all (chnB y.ps y.hs) = (List.range x.hs.length).all (chnB x.ps x.hs) := by
    have : chnB y.ps y.hs = chnB x.ps x.hs := by
      funext n
      unfold chnB joined
      rw [h.hs, h.ends, h.ends, h.plen]
    rw [this, h.hs]
  unfold Cfg.mayB
  rw [e1, e2, h.kernel, h.plen, h.hs]
theorem Cfg.Rel.ker : y.kerB = x.kerB := by
  unfold Cfg.kerB Cfg.fitB
  rw [h.hit, h.mayB, h.endW, h.kernel, h.room, h.frames]
theorem Cfg.Rel.gd (g : Gd x) : Gd y := by
  refine ⟨by rw [h.frames]; exact g.frames, by rw [h.major]; exact g.major, by rw [h.clen]; exact g.cs, by rw [h.plen]; exact g.ps, by rw [h.hs]; exact g.hs, fun p Q hQ => ?_, fun n c hc => ?_, fun n Y hY => ?_, by rw [h.ker]; exact g.ker⟩
  · obtain ⟨P, hP⟩ := get_of_len h.plen hQ
    exact h.gp hP hQ (g.gp p P hP)
  · rw [h.hs] at hc
    exact h.gh (g.gh n c hc)
  · obtain ⟨X, hX⟩ := get_of_len h.clen hY
    exact h.gc hX hY (g.gc n X hX)
end
end Go.Proofs.YtgookbkaacidpaaGreat
