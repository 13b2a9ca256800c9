/- Closed facts on the program s error types: what errors.Is and errors.As ask of them.
   Closed facts on the library s reflection at the program s error types, for errors.As; after the guide s worked example over one pointer type. -/
import Derived.Test.YtmbhamnkbpcljaaDoorBaseAll
import Derived.LaidEql
import Derived.Stop.Asserts
import Derived.RowKitTokens
namespace Go.Proofs.YtmbhamnkbpcljaaDoor.Err
open Go.RowKit Go.Extern.Stop Go.Stop Go.Extern Line
set_option linter.unusedVariables false

/-! ### equality of two errors of one integer type -/
theorem run_eqlIn_num {P : Program} (w : World) (d : Nat) {ti tn : TypeId} {ms : Array (String × TypeId)} {i : TypeInfo} {k : IntKind} (a b : Int)
    (hi : P.underlying ti = some (.interface ms)) (hn : P.underlying tn = some (.int k)) (hinfo : P.info? tn = some i) (hcomp : i.comparable = true) :
    (Op.equalIn (d + 2) ti (.iface tn (.int k a)) (.iface tn (.int k b))).run P w = .ok (a == b) w := by
  simp [Op.equalIn, run_underlying hi, run_underlying hn, typeInfo, hinfo, hcomp]
theorem run_eql_num {P : Program} (w : World) {ti tn : TypeId} {ms : Array (String × TypeId)} {i : TypeInfo} {k : IntKind} (a b : Int)
    (hi : P.underlying ti = some (.interface ms)) (hn : P.underlying tn = some (.int k)) (hinfo : P.info? tn = some i) (hcomp : i.comparable = true) :
    (binOp .eql ti (.iface tn (.int k a)) (.iface tn (.int k b))).run P w = .ok (.bool (a == b)) w := by
  simp only [binOp]
  simp [Op.equal, Op.maxDepth, run_eqlIn_num w 9998 a b hi hn hinfo hcomp]

/-! ### closed facts on the program s types: 45: a pointer to Fault, 46: Errno, 54: a pointer to 45, 57: a pointer to 46, 25: error, 91: the type s handle; 4 package-level variables -/
theorem comp46 : (Tryd.prog.info? 72).map (·.comparable) = some true := by kernel_rfl
theorem typeOf46 (v : Value) (w : World) : (ReflectliteType.typeOf #[.iface 72 v]).run Tryd.prog w = .ok (.iface 120 (.agg #[.pointer (some ⟨4, 72, none⟩)])) w := by kernel_rfl
theorem typeOf45 (v : Value) (w : World) : (ReflectliteType.typeOf #[.iface 80 v]).run Tryd.prog w = .ok (.iface 120 (.agg #[.pointer (some ⟨4, 80, none⟩)])) w := by kernel_rfl
def cmpEntry : Array Value → Sem Value := ReflectliteType.method fun t => do Rtype.noPackHeld "Comparable" t; pure (.bool (← typeInfo t).comparable)
theorem call86 (args : Array Value) (w : World) : (callFunc 104 args).run Tryd.prog w = ((cmpEntry args).run Tryd.prog w).andThen fun v w' => .ok (.value v) w' :=
  run_callFunc_extern Tryd.func104 (by kernel_rfl) (by kernel_rfl) (by kernel_rfl) (by kernel_rfl) args w
theorem cmp46 (w : World) : (cmpEntry #[.agg #[.pointer (some ⟨4, 72, none⟩)]]).run Tryd.prog w = .ok (.bool true) w := by kernel_rfl
theorem mComparable (v : Value) (w : World) : (Go.method 280 120 v "Comparable").run Tryd.prog w = .ok (104, v) w := by kernel_rfl
theorem noIs45 (v : Value) (xT : TypeId) (w : World) : (Instr.typeAssert (.iface 80 v) xT 122 true).run Tryd.prog w = .ok (.tuple #[.nilIface, .bool false]) w := run_typeAssert_lacksB Tryd.underlying122 (by kernel_rfl) (by kernel_rfl) v xT w
theorem noIs46 (v : Value) (xT : TypeId) (w : World) : (Instr.typeAssert (.iface 72 v) xT 122 true).run Tryd.prog w = .ok (.tuple #[.nilIface, .bool false]) w := run_typeAssert_lacksB Tryd.underlying122 (by kernel_rfl) (by kernel_rfl) v xT w
theorem hasUnwrap45 (v : Value) (xT : TypeId) (w : World) : (Instr.typeAssert (.iface 80 v) xT 125 true).run Tryd.prog w = .ok (.tuple #[.iface 80 v, .bool true]) w := run_typeAssert_hasB Tryd.underlying125 (by kernel_rfl) v xT w
theorem noUnwrap46 (v : Value) (xT : TypeId) (w : World) : (Instr.typeAssert (.iface 72 v) xT 125 true).run Tryd.prog w = .ok (.tuple #[.nilIface, .bool false]) w := run_typeAssert_lacksB Tryd.underlying125 (by kernel_rfl) (by kernel_rfl) v xT w
theorem noUnwraps46 (v : Value) (xT : TypeId) (w : World) : (Instr.typeAssert (.iface 72 v) xT 127 true).run Tryd.prog w = .ok (.tuple #[.nilIface, .bool false]) w := run_typeAssert_lacksB Tryd.underlying127 (by kernel_rfl) (by kernel_rfl) v xT w
theorem noAs46 (v : Value) (xT : TypeId) (w : World) : (Instr.typeAssert (.iface 72 v) xT 132 true).run Tryd.prog w = .ok (.tuple #[.nilIface, .bool false]) w := run_typeAssert_lacksB Tryd.underlying132 (by kernel_rfl) (by kernel_rfl) v xT w
theorem mUnwrap (v : Value) (w : World) : (Go.method 280 80 v "Unwrap").run Tryd.prog w = .ok (98, v) w := by kernel_rfl

end Go.Proofs.YtmbhamnkbpcljaaDoor.Err

namespace Go.Proofs.YtmbhamnkbpcljaaDoor.Err
open Go.RowKit Go.Extern.Stop Go.Stop Go.Extern Line
set_option linter.unusedVariables false

def valueEntry : Array Value → Sem Value := fun args => ReflectliteValue.unpack (args.getD 0 (.tuple #[]))
def typeEntry : Array Value → Sem Value := ReflectliteValue.methodAny (ReflectliteValue.valueError "reflectlite.Value.Type" 0) (fun t _ _ _ => ReflectliteType.toType t)
def isNilEntry : Array Value → Sem Value := ReflectliteValue.method (ReflectliteValue.valueError "reflectlite.Value.IsNil" 0) ReflectliteValue.isNil
def elemEntry : Array Value → Sem Value := ReflectliteValue.method (ReflectliteValue.valueError "reflectlite.Value.Elem" 0) ReflectliteValue.elem
def setEntry : Array Value → Sem Value := ReflectliteValue.set
def kindEntry : Array Value → Sem Value := ReflectliteType.abiMethod fun t => do pure (.int .u8 (← Rtype.kind t))
def elemTypeEntry : Array Value → Sem Value := ReflectliteType.method ReflectliteType.elem
def implementsEntry : Array Value → Sem Value := ReflectliteType.relation "Implements" ReflectliteType.implements_
def assignableEntry : Array Value → Sem Value := ReflectliteType.relation "AssignableTo" ReflectliteType.assignableTo
def typeOfEntry : Array Value → Sem Value := ReflectliteType.typeOf
theorem call31 (args : Array Value) (w : World) : (callFunc 55 args).run Tryd.prog w = ((valueEntry args).run Tryd.prog w).andThen fun v w' => .ok (.value v) w' :=
  run_callFunc_extern Tryd.func55 (by kernel_rfl) (by kernel_rfl) (by kernel_rfl) (by kernel_rfl) args w
theorem call32 (args : Array Value) (w : World) : (callFunc 56 args).run Tryd.prog w = ((typeEntry args).run Tryd.prog w).andThen fun v w' => .ok (.value v) w' :=
  run_callFunc_extern Tryd.func56 (by kernel_rfl) (by kernel_rfl) (by kernel_rfl) (by kernel_rfl) args w
theorem call33 (args : Array Value) (w : World) : (callFunc 57 args).run Tryd.prog w = ((isNilEntry args).run Tryd.prog w).andThen fun v w' => .ok (.value v) w' :=
  run_callFunc_extern Tryd.func57 (by kernel_rfl) (by kernel_rfl) (by kernel_rfl) (by kernel_rfl) args w
theorem call44 (args : Array Value) (w : World) : (callFunc 64 args).run Tryd.prog w = ((elemEntry args).run Tryd.prog w).andThen fun v w' => .ok (.value v) w' :=
  run_callFunc_extern Tryd.func64 (by kernel_rfl) (by kernel_rfl) (by kernel_rfl) (by kernel_rfl) args w
theorem call45 (args : Array Value) (w : World) : (callFunc 65 args).run Tryd.prog w = ((setEntry args).run Tryd.prog w).andThen fun v w' => .ok (.value v) w' :=
  run_callFunc_extern Tryd.func65 (by kernel_rfl) (by kernel_rfl) (by kernel_rfl) (by kernel_rfl) args w
theorem call74 (args : Array Value) (w : World) : (callFunc 93 args).run Tryd.prog w = ((kindEntry args).run Tryd.prog w).andThen fun v w' => .ok (.value v) w' :=
  run_callFunc_extern Tryd.func93 (by kernel_rfl) (by kernel_rfl) (by kernel_rfl) (by kernel_rfl) args w
theorem call87 (args : Array Value) (w : World) : (callFunc 105 args).run Tryd.prog w = ((elemTypeEntry args).run Tryd.prog w).andThen fun v w' => .ok (.value v) w' :=
  run_callFunc_extern Tryd.func105 (by kernel_rfl) (by kernel_rfl) (by kernel_rfl) (by kernel_rfl) args w
theorem call88 (args : Array Value) (w : World) : (callFunc 106 args).run Tryd.prog w = ((implementsEntry args).run Tryd.prog w).andThen fun v w' => .ok (.value v) w' :=
  run_callFunc_extern Tryd.func106 (by kernel_rfl) (by kernel_rfl) (by kernel_rfl) (by kernel_rfl) args w
theorem call85 (args : Array Value) (w : World) : (callFunc 103 args).run Tryd.prog w = ((assignableEntry args).run Tryd.prog w).andThen fun v w' => .ok (.value v) w' :=
  run_callFunc_extern Tryd.func103 (by kernel_rfl) (by kernel_rfl) (by kernel_rfl) (by kernel_rfl) args w
theorem call29 (args : Array Value) (w : World) : (callFunc 53 args).run Tryd.prog w = ((typeOfEntry args).run Tryd.prog w).andThen fun v w' => .ok (.value v) w' :=
  run_callFunc_extern Tryd.func53 (by kernel_rfl) (by kernel_rfl) (by kernel_rfl) (by kernel_rfl) args w

theorem typeOfE45 (v : Value) (w : World) : (typeOfEntry #[.iface 80 v]).run Tryd.prog w = .ok (.iface 120 (.agg #[.pointer (some ⟨4, 80, none⟩)])) w := by kernel_rfl
theorem typeOfE46 (v : Value) (w : World) : (typeOfEntry #[.iface 72 v]).run Tryd.prog w = .ok (.iface 120 (.agg #[.pointer (some ⟨4, 72, none⟩)])) w := by kernel_rfl
theorem mKind (h : Value) (w : World) : (Go.method 280 120 (.agg #[h]) "Kind").run Tryd.prog w = .ok (93, h) w := by kernel_rfl
theorem mElem (h : Value) (w : World) : (Go.method 280 120 (.agg #[h]) "Elem").run Tryd.prog w = .ok (105, .agg #[h]) w := by kernel_rfl
theorem mImplements (h : Value) (w : World) : (Go.method 280 120 (.agg #[h]) "Implements").run Tryd.prog w = .ok (106, .agg #[h]) w := by kernel_rfl
theorem mAssignableTo (h : Value) (w : World) : (Go.method 280 120 (.agg #[h]) "AssignableTo").run Tryd.prog w = .ok (103, .agg #[h]) w := by kernel_rfl
theorem notAssignable (w : World) : (assignableEntry #[.agg #[.pointer (some ⟨4, 72, none⟩)], .iface 120 (.agg #[.pointer (some ⟨4, 80, none⟩)])]).run Tryd.prog w = .ok (.bool false) w := by kernel_rfl
theorem two_args (v x : Value) (f : Value → Value → Sem Value) (g : Array Value → Sem Value) : ReflectliteValue.set.match_3 (motive := fun _ => Sem Value) #[v, x] f g = f v x := rfl
theorem one_arg (v : Value) (f : Value → Sem Value) (g : Array Value → Sem Value) : ReflectliteValue.method.match_2 (motive := fun _ => Sem Value) #[v] f g = f v := rfl

/-! ### the target's type 54, a pointer to 45 -/
theorem valueOf54 (t : Addr) (w : World) : (valueEntry #[.iface 82 (.pointer (some t))]).run Tryd.prog w
    = .ok (.agg #[.pointer (some ⟨4, 82, none⟩), .pointer (some ⟨w.heap.size, 0, none⟩), .int .u64 150]) (w.alloc (.cells #[.pointer (some t)] 82)) := by kernel_rfl
theorem type54 (a : Addr) (w : World) : (typeEntry #[.agg #[.pointer (some ⟨4, 82, none⟩), .pointer (some a), .int .u64 150]]).run Tryd.prog w
    = .ok (.iface 120 (.agg #[.pointer (some ⟨4, 82, none⟩)])) w := by kernel_rfl
theorem kind54 (w : World) : (kindEntry #[.pointer (some ⟨4, 82, none⟩)]).run Tryd.prog w = .ok (.int .u8 22) w := by kernel_rfl
theorem kind45 (w : World) : (kindEntry #[.pointer (some ⟨4, 80, none⟩)]).run Tryd.prog w = .ok (.int .u8 22) w := by kernel_rfl
theorem parts54 (a : Addr) (w : World) : (ReflectliteValue.parts (.agg #[.pointer (some ⟨4, 82, none⟩), .pointer (some a), .int .u64 150])).run Tryd.prog w = .ok (some (82, a, 150)) w := by kernel_rfl
theorem isNil54 (a p : Addr) (W : World) (ha : W.cell? a = some (.pointer (some p))) :
    (isNilEntry #[.agg #[.pointer (some ⟨4, 82, none⟩), .pointer (some a), .int .u64 150]]).run Tryd.prog W = .ok (.bool false) W := by
  unfold isNilEntry
  delta ReflectliteValue.method
  rw [one_arg]
  simp only [Sem.run_bind, parts54, Result.andThen]
  simp [ReflectliteValue.isNil, loadVar, isAgg, underlying, Tryd.underlying82, ha, Result.andThen]
theorem elem54 (w : World) : (elemTypeEntry #[.agg #[.pointer (some ⟨4, 82, none⟩)]]).run Tryd.prog w = .ok (.iface 120 (.agg #[.pointer (some ⟨4, 80, none⟩)])) w := by kernel_rfl
theorem implements45 (w : World) : (implementsEntry #[.agg #[.pointer (some ⟨4, 80, none⟩)], .iface 120 (.agg #[.pointer (some ⟨4, 28, none⟩)])]).run Tryd.prog w = .ok (.bool true) w := by kernel_rfl
theorem assignable45 (w : World) : (assignableEntry #[.agg #[.pointer (some ⟨4, 80, none⟩)], .iface 120 (.agg #[.pointer (some ⟨4, 80, none⟩)])]).run Tryd.prog w = .ok (.bool true) w := by kernel_rfl
theorem valueOf45 (e : Addr) (w : World) : (valueEntry #[.iface 80 (.pointer (some e))]).run Tryd.prog w
    = .ok (.agg #[.pointer (some ⟨4, 80, none⟩), .pointer (some ⟨w.heap.size, 0, none⟩), .int .u64 150]) (w.alloc (.cells #[.pointer (some e)] 80)) := by kernel_rfl
theorem elemOf54 (w : World) : (Rtype.elem? 82).run Tryd.prog w = .ok (some 80) w := by kernel_rfl
theorem mk45 (p : Addr) (w : World) : (ReflectliteValue.mk 80 p ReflectliteValue.flagAddr).run Tryd.prog w = .ok (.agg #[.pointer (some ⟨4, 80, none⟩), .pointer (some p), .int .u64 406]) w := by kernel_rfl
theorem elemV54 (a p : Addr) (W : World) (ha : W.cell? a = some (.pointer (some p))) :
    (elemEntry #[.agg #[.pointer (some ⟨4, 82, none⟩), .pointer (some a), .int .u64 150]]).run Tryd.prog W
      = .ok (.agg #[.pointer (some ⟨4, 80, none⟩), .pointer (some p), .int .u64 406]) W := by
  unfold elemEntry
  delta ReflectliteValue.method
  rw [one_arg]
  simp only [Sem.run_bind, parts54, Result.andThen]
  simp [ReflectliteValue.elem, loadVar, isAgg, underlying, Tryd.underlying82, ha, Result.andThen, elemOf54, mk45]
theorem parts45a (a : Addr) (w : World) : (ReflectliteValue.parts (.agg #[.pointer (some ⟨4, 80, none⟩), .pointer (some a), .int .u64 406])).run Tryd.prog w = .ok (some (80, a, 406)) w := by kernel_rfl
theorem parts45 (a : Addr) (w : World) : (ReflectliteValue.parts (.agg #[.pointer (some ⟨4, 80, none⟩), .pointer (some a), .int .u64 150])).run Tryd.prog w = .ok (some (80, a, 150)) w := by kernel_rfl
theorem direct45 (w : World) : (Rtype.directlyAssignable 80 80).run Tryd.prog w = .ok true w := by kernel_rfl
theorem size45 (w : World) : (sizeOf 80).run Tryd.prog w = .ok 1 w := by kernel_rfl
theorem set45 (ta b : Addr) (e : Addr) (old : Value) (W : World) (hb : W.cell? b = some (.pointer (some e))) (ht : W.cell? ta = some old) (hf : W.frozen? ta = false) :
    (setEntry #[.agg #[.pointer (some ⟨4, 80, none⟩), .pointer (some ta), .int .u64 406], .agg #[.pointer (some ⟨4, 80, none⟩), .pointer (some b), .int .u64 150]]).run Tryd.prog W
      = .ok (.tuple #[]) (W.setCell ta (.pointer (some e))) := by
  unfold setEntry
  delta ReflectliteValue.set
  rw [two_args]
  simp only [Sem.run_bind, parts45a, parts45, Result.andThen]
  simp [ReflectliteValue.flagAddr, loadVar, isAgg, underlying, Tryd.underlying80, hb, Result.andThen, direct45, storeVar, Value.cells, storeCells, Addr.add]
  rw [run_store Tryd.prog W ta _ _ (by rfl)]
  simp [ht, hf]

/-! ### the target's type 57, a pointer to 46 -/
theorem valueOf57 (t : Addr) (w : World) : (valueEntry #[.iface 87 (.pointer (some t))]).run Tryd.prog w
    = .ok (.agg #[.pointer (some ⟨4, 87, none⟩), .pointer (some ⟨w.heap.size, 0, none⟩), .int .u64 150]) (w.alloc (.cells #[.pointer (some t)] 87)) := by kernel_rfl
theorem type57 (a : Addr) (w : World) : (typeEntry #[.agg #[.pointer (some ⟨4, 87, none⟩), .pointer (some a), .int .u64 150]]).run Tryd.prog w
    = .ok (.iface 120 (.agg #[.pointer (some ⟨4, 87, none⟩)])) w := by kernel_rfl
theorem kind57 (w : World) : (kindEntry #[.pointer (some ⟨4, 87, none⟩)]).run Tryd.prog w = .ok (.int .u8 22) w := by kernel_rfl
theorem kind46 (w : World) : (kindEntry #[.pointer (some ⟨4, 72, none⟩)]).run Tryd.prog w = .ok (.int .u8 2) w := by kernel_rfl
theorem parts57 (a : Addr) (w : World) : (ReflectliteValue.parts (.agg #[.pointer (some ⟨4, 87, none⟩), .pointer (some a), .int .u64 150])).run Tryd.prog w = .ok (some (87, a, 150)) w := by kernel_rfl
theorem isNil57 (a p : Addr) (W : World) (ha : W.cell? a = some (.pointer (some p))) :
    (isNilEntry #[.agg #[.pointer (some ⟨4, 87, none⟩), .pointer (some a), .int .u64 150]]).run Tryd.prog W = .ok (.bool false) W := by
  unfold isNilEntry
  delta ReflectliteValue.method
  rw [one_arg]
  simp only [Sem.run_bind, parts57, Result.andThen]
  simp [ReflectliteValue.isNil, loadVar, isAgg, underlying, Tryd.underlying87, ha, Result.andThen]
theorem elem57 (w : World) : (elemTypeEntry #[.agg #[.pointer (some ⟨4, 87, none⟩)]]).run Tryd.prog w = .ok (.iface 120 (.agg #[.pointer (some ⟨4, 72, none⟩)])) w := by kernel_rfl
theorem implements46 (w : World) : (implementsEntry #[.agg #[.pointer (some ⟨4, 72, none⟩)], .iface 120 (.agg #[.pointer (some ⟨4, 28, none⟩)])]).run Tryd.prog w = .ok (.bool true) w := by kernel_rfl
theorem assignable46 (w : World) : (assignableEntry #[.agg #[.pointer (some ⟨4, 72, none⟩)], .iface 120 (.agg #[.pointer (some ⟨4, 72, none⟩)])]).run Tryd.prog w = .ok (.bool true) w := by kernel_rfl
theorem valueOf46 (n : Int) (w : World) : (valueEntry #[.iface 72 (.int .i64 n)]).run Tryd.prog w
    = .ok (.agg #[.pointer (some ⟨4, 72, none⟩), .pointer (some ⟨w.heap.size, 0, none⟩), .int .u64 130]) (w.alloc (.cells #[.int .i64 n] 72)) := by kernel_rfl
theorem elemOf57 (w : World) : (Rtype.elem? 87).run Tryd.prog w = .ok (some 72) w := by kernel_rfl
theorem mk46 (p : Addr) (w : World) : (ReflectliteValue.mk 72 p ReflectliteValue.flagAddr).run Tryd.prog w = .ok (.agg #[.pointer (some ⟨4, 72, none⟩), .pointer (some p), .int .u64 386]) w := by kernel_rfl
theorem elemV57 (a p : Addr) (W : World) (ha : W.cell? a = some (.pointer (some p))) :
    (elemEntry #[.agg #[.pointer (some ⟨4, 87, none⟩), .pointer (some a), .int .u64 150]]).run Tryd.prog W
      = .ok (.agg #[.pointer (some ⟨4, 72, none⟩), .pointer (some p), .int .u64 386]) W := by
  unfold elemEntry
  delta ReflectliteValue.method
  rw [one_arg]
  simp only [Sem.run_bind, parts57, Result.andThen]
  simp [ReflectliteValue.elem, loadVar, isAgg, underlying, Tryd.underlying87, ha, Result.andThen, elemOf57, mk46]
theorem parts46a (a : Addr) (w : World) : (ReflectliteValue.parts (.agg #[.pointer (some ⟨4, 72, none⟩), .pointer (some a), .int .u64 386])).run Tryd.prog w = .ok (some (72, a, 386)) w := by kernel_rfl
theorem parts46 (a : Addr) (w : World) : (ReflectliteValue.parts (.agg #[.pointer (some ⟨4, 72, none⟩), .pointer (some a), .int .u64 130])).run Tryd.prog w = .ok (some (72, a, 130)) w := by kernel_rfl
theorem direct46 (w : World) : (Rtype.directlyAssignable 72 72).run Tryd.prog w = .ok true w := by kernel_rfl
theorem size46 (w : World) : (sizeOf 72).run Tryd.prog w = .ok 1 w := by kernel_rfl
theorem set46 (ta b : Addr) (n : Int) (old : Value) (W : World) (hb : W.cell? b = some (.int .i64 n)) (ht : W.cell? ta = some old) (hf : W.frozen? ta = false) :
    (setEntry #[.agg #[.pointer (some ⟨4, 72, none⟩), .pointer (some ta), .int .u64 386], .agg #[.pointer (some ⟨4, 72, none⟩), .pointer (some b), .int .u64 130]]).run Tryd.prog W
      = .ok (.tuple #[]) (W.setCell ta (.int .i64 n)) := by
  unfold setEntry
  delta ReflectliteValue.set
  rw [two_args]
  simp only [Sem.run_bind, parts46a, parts46, Result.andThen]
  simp [ReflectliteValue.flagAddr, loadVar, isAgg, underlying, Tryd.underlying72, hb, Result.andThen, direct46, storeVar, Value.cells, storeCells, Addr.add]
  rw [run_store Tryd.prog W ta _ _ (by rfl)]
  simp [ht, hf]
end Go.Proofs.YtmbhamnkbpcljaaDoor.Err
