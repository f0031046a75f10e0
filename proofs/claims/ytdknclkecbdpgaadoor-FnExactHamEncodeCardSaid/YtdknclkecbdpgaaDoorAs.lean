/- errors.As at a fault of a link: no error, and an error that is such a fault. -/
import Derived.Test.YtdknclkecbdpgaaDoorProg
import Derived.WalkKit
import Derived.LaidEql
import Derived.Stop.Asserts
import Derived.RowKitTokens
import Derived.Below
import Derived.Handy
namespace Go.Proofs.YtdknclkecbdpgaaDoor
open Go.RowKit Go.Extern.Stop Go.Stop Go.Extern
set_option linter.unusedVariables false
set_option linter.unusedSimpArgs false
/-- errors.As of no error. -/
theorem as_nil (t : Value) (w : World) : Calls Tryd.prog 123 #[.nilIface, t] w fun e w' => e = .returned (.bool false) ∧ w' = w := by
  go_enter Tryd.func123, Tryd.ntmps123
  go_wp2
  go_ret
  exact ⟨rfl, rfl⟩
theorem valueOf130 (t : Addr) (w : World) : (ReflectliteValue.unpack (.iface 130 (.pointer (some t)))).run Tryd.prog w
    = .ok (.agg #[.pointer (some ⟨1, 130, none⟩), .pointer (some ⟨w.heap.size, 0, none⟩), .int .u64 150]) (w.alloc (.cells #[.pointer (some t)] 130)) := by kernel_rfl
theorem type130 (a : Addr) (w : World) : (ReflectliteValue.methodAny (ReflectliteValue.valueError "reflectlite.Value.Type" 0) (fun t _ _ _ => ReflectliteType.toType t) #[.agg #[.pointer (some ⟨1, 130, none⟩), .pointer (some a), .int .u64 150]]).run Tryd.prog w
    = .ok (.iface 158 (.agg #[.pointer (some ⟨1, 130, none⟩)])) w := by kernel_rfl
theorem methodKind (h : Value) (w : World) : (Go.method 307 158 (.agg #[h]) "Kind").run Tryd.prog w = .ok (168, h) w := by kernel_rfl
theorem kind130 (w : World) : ((ReflectliteType.abiMethod fun t => Functor.map (fun a : Nat => Value.int IntKind.u8 (a : Int)) (Rtype.kind t)) #[.pointer (some ⟨1, 130, none⟩)]).run Tryd.prog w = .ok (.int .u8 22) w := by kernel_rfl
theorem kind128 (w : World) : ((ReflectliteType.abiMethod fun t => Functor.map (fun a : Nat => Value.int IntKind.u8 (a : Int)) (Rtype.kind t)) #[.pointer (some ⟨1, 128, none⟩)]).run Tryd.prog w = .ok (.int .u8 25) w := by kernel_rfl
theorem parts130 (a : Addr) (w : World) : (ReflectliteValue.parts (.agg #[.pointer (some ⟨1, 130, none⟩), .pointer (some a), .int .u64 150])).run Tryd.prog w = .ok (some (130, a, 150)) w := by kernel_rfl
theorem isNil130 (a p : Addr) (W : World) (ha : W.cell? a = some (.pointer (some p))) :
    (ReflectliteValue.method (ReflectliteValue.valueError "reflectlite.Value.IsNil" 0) ReflectliteValue.isNil #[.agg #[.pointer (some ⟨1, 130, none⟩), .pointer (some a), .int .u64 150]]).run Tryd.prog W = .ok (.bool false) W := by
  delta ReflectliteValue.method
  change Sem.run Tryd.prog (ReflectliteValue.parts (.agg #[.pointer (some ⟨1, 130, none⟩), .pointer (some a), .int .u64 150]) >>= _) W = _
  simp only [Sem.run_bind, parts130, Result.andThen]
  simp [ReflectliteValue.isNil, loadVar, isAgg, underlying, Tryd.underlying130, ha, Result.andThen]
theorem methodElem (h : Value) (w : World) : (Go.method 307 158 (.agg #[h]) "Elem").run Tryd.prog w = .ok (180, .agg #[h]) w := by kernel_rfl
theorem methodImplements (h : Value) (w : World) : (Go.method 307 158 (.agg #[h]) "Implements").run Tryd.prog w = .ok (181, .agg #[h]) w := by kernel_rfl
theorem methodAssignableTo (h : Value) (w : World) : (Go.method 307 158 (.agg #[h]) "AssignableTo").run Tryd.prog w = .ok (178, .agg #[h]) w := by kernel_rfl
theorem elem130 (w : World) : (ReflectliteType.method ReflectliteType.elem #[.agg #[.pointer (some ⟨1, 130, none⟩)]]).run Tryd.prog w = .ok (.iface 158 (.agg #[.pointer (some ⟨1, 128, none⟩)])) w := by kernel_rfl
theorem implements128 (w : World) : (ReflectliteType.relation "Implements" ReflectliteType.implements_ #[.agg #[.pointer (some ⟨1, 128, none⟩)], .iface 158 (.agg #[.pointer (some ⟨1, 94, none⟩)])]).run Tryd.prog w = .ok (.bool true) w := by kernel_rfl
theorem typeOf128 (v : Value) (w : World) : (ReflectliteType.typeOf #[.iface 128 v]).run Tryd.prog w = .ok (.iface 158 (.agg #[.pointer (some ⟨1, 128, none⟩)])) w := by kernel_rfl
theorem assignable128 (w : World) : (ReflectliteType.relation "AssignableTo" ReflectliteType.assignableTo #[.agg #[.pointer (some ⟨1, 128, none⟩)], .iface 158 (.agg #[.pointer (some ⟨1, 128, none⟩)])]).run Tryd.prog w = .ok (.bool true) w := by kernel_rfl
theorem valueOf128 (c : Value) (w : World) : (ReflectliteValue.unpack (.iface 128 (.agg #[c]))).run Tryd.prog w
    = .ok (.agg #[.pointer (some ⟨1, 128, none⟩), .pointer (some ⟨w.heap.size, 0, none⟩), .int .u64 153]) (w.alloc (.cells #[c] 128)) := by kernel_rfl
theorem elemOf130 (w : World) : (Rtype.elem? 130).run Tryd.prog w = .ok (some 128) w := by kernel_rfl
theorem mk128 (p : Addr) (w : World) : (ReflectliteValue.mk 128 p ReflectliteValue.flagAddr).run Tryd.prog w = .ok (.agg #[.pointer (some ⟨1, 128, none⟩), .pointer (some p), .int .u64 409]) w := by kernel_rfl
theorem elemV130 (a p : Addr) (W : World) (ha : W.cell? a = some (.pointer (some p))) :
    (ReflectliteValue.method (ReflectliteValue.valueError "reflectlite.Value.Elem" 0) ReflectliteValue.elem #[.agg #[.pointer (some ⟨1, 130, none⟩), .pointer (some a), .int .u64 150]]).run Tryd.prog W
      = .ok (.agg #[.pointer (some ⟨1, 128, none⟩), .pointer (some p), .int .u64 409]) W := by
  delta ReflectliteValue.method
  change Sem.run Tryd.prog (ReflectliteValue.parts (.agg #[.pointer (some ⟨1, 130, none⟩), .pointer (some a), .int .u64 150]) >>= _) W = _
  simp only [Sem.run_bind, parts130, Result.andThen]
  simp [ReflectliteValue.elem, loadVar, isAgg, underlying, Tryd.underlying130, ha, Result.andThen, elemOf130, mk128]
theorem parts128a (a : Addr) (w : World) : (ReflectliteValue.parts (.agg #[.pointer (some ⟨1, 128, none⟩), .pointer (some a), .int .u64 409])).run Tryd.prog w = .ok (some (128, a, 409)) w := by kernel_rfl
theorem parts128 (a : Addr) (w : World) : (ReflectliteValue.parts (.agg #[.pointer (some ⟨1, 128, none⟩), .pointer (some a), .int .u64 153])).run Tryd.prog w = .ok (some (128, a, 153)) w := by kernel_rfl
theorem direct128 (w : World) : (Rtype.directlyAssignable 128 128).run Tryd.prog w = .ok true w := by kernel_rfl
theorem size128 (w : World) : (sizeOf 128).run Tryd.prog w = .ok 1 w := by kernel_rfl
theorem set128 (t b : Nat) (c : Int) (old : Value) (W : World) (hb : W.cell? ⟨b, 0, none⟩ = some (.int .i64 c)) (ht : W.cell? ⟨t, 0, none⟩ = some old) (hf : W.frozen? ⟨t, 0, none⟩ = false) :
    (ReflectliteValue.set #[.agg #[.pointer (some ⟨1, 128, none⟩), .pointer (some ⟨t, 0, none⟩), .int .u64 409], .agg #[.pointer (some ⟨1, 128, none⟩), .pointer (some ⟨b, 0, none⟩), .int .u64 153]]).run Tryd.prog W
      = .ok (.tuple #[]) (W.setCell ⟨t, 0, none⟩ (.int .i64 c)) := by
  delta ReflectliteValue.set
  change Sem.run Tryd.prog (ReflectliteValue.parts (.agg #[.pointer (some ⟨1, 128, none⟩), .pointer (some ⟨t, 0, none⟩), .int .u64 409]) >>= fun p => ReflectliteValue.parts (.agg #[.pointer (some ⟨1, 128, none⟩), .pointer (some ⟨b, 0, none⟩), .int .u64 153]) >>= fun q => _) W = _
  simp only [Sem.run_bind, parts128a, parts128, Result.andThen]
  simp [ReflectliteValue.flagAddr, loadVar, isAgg, underlying, Tryd.underlying128, hb, Result.andThen, direct128, storeVar, Value.cells, storeCells, Addr.add, size128, go_sem, ht, hf]
end Go.Proofs.YtdknclkecbdpgaaDoor
