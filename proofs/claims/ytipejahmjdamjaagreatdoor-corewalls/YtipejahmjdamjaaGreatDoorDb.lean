import Derived.Test.YtipejahmjdamjaaGreatDoorDa
namespace Go.Proofs.YtipejahmjdamjaaGreatDoor
open Go.RowKit Go.Shelf
set_option linter.unusedVariables false
set_option maxRecDepth 6000

/-- The cells of a context. -/
def ctx (rg : List UInt32) (pc : Nat) : List Value := wvs rg ++ [.int .u32 pc]
def coreCells (rg : List UInt32) (pc tb cb : Nat) : List Value := ctx rg pc ++ [ptr tb, ptr cb]

/-- A core lies in block c. -/
structure CoreAt (w : World) (c tb cb : Nat) (rg : List UInt32) (pc : Nat) (ls : List Tl.Lf) (st : Nat → List Int) (FT FC : Nat → Prop) : Prop where
  blk : Blk w c (coreCells rg pc tb cb) 91
  len : rg.length = 16
  tl : Tl.Tl w tb ls FT
  ca : Ch.Ca w cb st FC
  ft : ∀ k, FT k → k ≠ c ∧ ¬ FC k
  fc : ∀ k, FC k → k ≠ c
  good : ∀ l ∈ ls, Tl.mayB l = true
  pcl : pc < 4294967296
  two : ∀ k, (k = c ∨ FT k ∨ FC k) → 2 ≤ k

theorem CoreAt.kept {S : Nat → Prop} {w w' : World} {c tb cb : Nat} {rg : List UInt32} {pc : Nat} {ls : List Tl.Lf} {st : Nat → List Int} {FT FC : Nat → Prop} (h : CoreAt w c tb cb rg pc ls st FT FC) (hK : Keeps S w w') (hn : ∀ k, (k = c ∨ FT k ∨ FC k) → ¬ S k) :
    CoreAt w' c tb cb rg pc ls st FT FC :=
  { h with blk := h.blk.kept hK (hn c (.inl rfl)), tl := h.tl.kept hK fun k hk => hn k (.inr (.inl hk)), ca := h.ca.kept hK fun k hk => hn k (.inr (.inr hk)) }

/-- The instruction at its beginning. -/
def sp0 (rg : List UInt32) (pc c m root clock : Nat) : Sp := ⟨rg, pc, c, m, root, clock, 0, 0, 0, 0, 0, 0, 0, -1, pc, 0, false, 0, 0⟩
def spz (rg : List UInt32) (pc c m root clock : Nat) : Sp := ⟨rg, pc, c, m, root, clock, 0, 0, 0, 0, 0, 0, 0, 0, 0, 0, false, 0, 0⟩

def actCells (t : Sp) : List Value := [.int .i64 t.cost, .int .i64 t.trap, .int .i64 t.call, .int .u32 t.apc, .int .u32 t.word, .bool t.rd, .int .u32 t.addr, .int .u32 t.val]

theorem built113x (r0 r1 r2 r3 r4 r5 r6 r7 r8 r9 r10 r11 r12 r13 r14 r15 : UInt32) (pc c m root clock : Nat) :
    Tryz.prog.built 113 [(0, .agg (ctx [r0, r1, r2, r3, r4, r5, r6, r7, r8, r9, r10, r11, r12, r13, r14, r15] pc).toArray), (1, ptr c), (2, ptr m), (3, .int .i64 root), (4, .int .u32 clock)] = some (spz [r0, r1, r2, r3, r4, r5, r6, r7, r8, r9, r10, r11, r12, r13, r14, r15] pc c m root clock).cells.toArray := by
  kernel_rfl

theorem built113 (rg : List UInt32) (pc c m root clock : Nat) (hl : rg.length = 16) :
    Tryz.prog.built 113 [(0, .agg (ctx rg pc).toArray), (1, ptr c), (2, ptr m), (3, .int .i64 root), (4, .int .u32 clock)] = some (spz rg pc c m root clock).cells.toArray := by
  match rg, hl with
  | [r0, r1, r2, r3, r4, r5, r6, r7, r8, r9, r10, r11, r12, r13, r14, r15], _ => exact built113x r0 r1 r2 r3 r4 r5 r6 r7 r8 r9 r10 r11 r12 r13 r14 r15 pc c m root clock

theorem cs17 (rg : List UInt32) (pc tb cb : Nat) (hl : rg.length = 16) : (coreCells rg pc tb cb)[17]? = some (ptr tb) ∧ (coreCells rg pc tb cb)[18]? = some (ptr cb) ∧ (coreCells rg pc tb cb)[16]? = some (.int .u32 pc) ∧ (coreCells rg pc tb cb).length = 19 := by
  match rg, hl with
  | [r0, r1, r2, r3, r4, r5, r6, r7, r8, r9, r10, r11, r12, r13, r14, r15], _ => exact ⟨rfl, rfl, rfl, rfl⟩

end Go.Proofs.YtipejahmjdamjaaGreatDoor
