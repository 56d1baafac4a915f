import Derived.Test.YtfbapgcopidbpaaGreatVb
import Derived.Maps.Own
import Derived.Maps.OwnOps
namespace Go.Proofs.YtfbapgcopidbpaaGreat
open Go.RowKit Go.Shelf
open Mq (SegW wvs wvs_length wvs_get run_make_words run_copy_wb segW_of_blk)
set_option linter.unusedVariables false
set_option maxRecDepth 6000

theorem wpList_update_run {ops : Array Oper} {rest : List Oper} {o : Oper} {a : Act} {Q : Exit → Act → World → Prop} {P : Program} {w w' : World} (hgd : o.guard = none) (m x v : Operand) (t : TypeId)
    (ho : o.op = .mapUpdate t m x v) (vm vx vv : Value) (hm : a.eval m = vm) (hx : a.eval x = vx) (hv : a.eval v = vv)
    (hr : (Instr.mapUpdate t vm vx vv).run P w = .ok () w') (h : wpList P ops Q rest (a.put o.dst undef) w') : wpList P ops Q (o :: rest) a w :=
  wpList_plain hgd fun _ hK => by
    unfold Oper.wp
    simp [execOp, ho, hm, hx, hv, hr, Result.andThen]
    exact hK _ _ h

theorem wpList_delete_run {ops : Array Oper} {rest : List Oper} {o : Oper} {a : Act} {Q : Exit → Act → World → Prop} {P : Program} {w w' : World} (hgd : o.guard = none) (m x : Operand) (t k : TypeId)
    (ho : o.op = .call { callee := .builtin .delete, args := #[m, x], argTypes := #[t, k] }) (vm vx v' : Value) (hm : a.eval m = vm) (hx : a.eval x = vx)
    (hr : ∀ ty, (Builtin.delete_ #[t, k] ty #[vm, vx]).run P w = .ok v' w') (h : wpList P ops Q rest (a.put o.dst v') w') : wpList P ops Q (o :: rest) a w :=
  wpList_plain hgd fun _ hK => by
    unfold Oper.wp execOp
    simp only [ho, resolve, invoke, builtin, Sem.run_bind, Sem.run_pure, Result.andThen_ok, List.map_toArray, List.map_cons, List.map_nil, hm, hx, hr]
    exact hK _ _ h


theorem wpList_ask_run {ops : Array Oper} {rest : List Oper} {o : Oper} {a : Act} {Q : Exit → Act → World → Prop} {P : Program} {w : World} (hgd : o.guard = none) (m x : Operand) (t : TypeId)
    (ho : o.op = .lookup t m x true) (vm vx v' : Value) (hm : a.eval m = vm) (hx : a.eval x = vx)
    (hr : (Instr.lookup t vm vx true).run P w = .ok v' w) (h : wpList P ops Q rest (a.put o.dst v') w) : wpList P ops Q (o :: rest) a w :=
  wpList_plain hgd fun _ hK => by
    unfold Oper.wp execOp
    simp only [ho, hm, hx, hr, Sem.run_bind, Sem.run_pure, Result.andThen_ok]
    exact hK _ _ h
theorem run_makeMap_hint (n : Int) (w : World) : (Instr.makeMap 69 (some (.int .i64 n))).run Tryz.prog w = .ok (.map (some w.heap.size)) (w.alloc (.map #[] 0)) := by
  simp [Instr.makeMap, run_underlying under69, asInt, newObj, Result.andThen]
  rfl

/-- A feed that the map holds: its words in block g. -/
structure Tr where
  e : Int
  p : Int
  g : Nat
  ws : List UInt32
def Tr.kv (r : Tr) : Value × Value := (Go.Proofs.YtfbapgcopidbpaaGreat.kv r.e r.p, .slice (some ⟨r.g, 0, none⟩) r.ws.length r.ws.length)
def Tr.k3 (r : Tr) : Int × Int × List UInt32 := (r.e, r.p, r.ws)
def Fd.k3 (f : Fd) : Int × Int × List UInt32 := (f.e, f.p, f.ws)
/-- What the devices tell, as the map m holds it. -/
structure Td (w : World) (m lo : Nat) (R : List Tr) : Prop where
  map : MapIs Tryz.prog 73 w m (R.map Tr.kv)
  blk : ∀ r ∈ R, Blk w r.g (wvs r.ws) 27 ∧ lo ≤ r.g
  lom : lo ≤ m
theorem Td.kept {w w' : World} {m lo : Nat} {R : List Tr} (h : Td w m lo R) (hK : Keeps (fun _ => False) w w') : Td w' m lo R :=
  ⟨h.map.kept hK fun h => h, fun r hr => ⟨(h.blk r hr).1.kept hK fun h => h, (h.blk r hr).2⟩, h.lom⟩
/-- While feeds are gathered. -/
structure TdI (w : World) (x : Cfg) (C N m : Nat) (a : Option Addr) (c : Nat) (fs : List Fd) (R : List Tr) (wr : World) : Prop where
  one : One w x C N wr
  fin : FdsIn wr N a c fs
  td : Td wr m w.heap.size R
theorem TdI.kept {w : World} {x : Cfg} {C N m : Nat} {a : Option Addr} {c : Nat} {fs : List Fd} {R : List Tr} {wr w' : World} (h : TdI w x C N m a c fs R wr) (hK : Keeps (fun _ => False) wr w') : TdI w x C N m a c fs R w' :=
  ⟨h.one.kept hK, h.fin.kept hK fun _ h => h.elim, h.td.kept hK⟩
end Go.Proofs.YtfbapgcopidbpaaGreat
