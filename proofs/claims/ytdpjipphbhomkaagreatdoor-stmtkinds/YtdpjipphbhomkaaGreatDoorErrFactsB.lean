/- Closed facts on the program s error types: what errors.Is and errors.As ask of them. -/
import Derived.Test.YtdpjipphbhomkaaGreatDoorMemB
import Derived.LaidEql
import Derived.Stop.Asserts
import Derived.RowKitTokens
namespace Go.Proofs.YtdpjipphbhomkaaGreatDoor.Err
open Go.RowKit Go.Extern.Stop Go.Stop Go.Extern Line
set_option linter.unusedVariables false

/-! ### equality of two errors of one integer type -/
theorem run_eqlIn_num {P : Program} (w : World) (d : Nat) {ti tn : TypeId} {ms : Array (String × TypeId)} {i : TypeInfo} {k : IntKind} (a b : Int)
    (hi : P.underlying ti = some (.interface ms)) (hn : P.underlying tn = some (.int k)) (hinfo : P.info? tn = some i) (hcomp : i.comparable = true) :
    (Op.equalIn (d + 2) ti (.iface tn (.int k a)) (.iface tn (.int k b))).run P w = .ok (a == b) w := by
  simp [Op.equalIn, run_underlying hi, run_underlying hn, typeInfo, hinfo, hcomp]
theorem run_eql_num {P : Program} (w : World) {ti tn : TypeId} {ms : Array (String × TypeId)} {i : TypeInfo} {k : IntKind} (a b : Int)
    (hi : P.underlying ti = some (.interface ms)) (hn : P.underlying tn = some (.int k)) (hinfo : P.info? tn = some i) (hcomp : i.comparable = true) :
    (binOp .eql ti (.iface tn (.int k a)) (.iface tn (.int k b))).run P w = .ok (.bool (a == b)) w := by
  simp only [binOp]
  simp [Op.equal, Op.maxDepth, run_eqlIn_num w 9998 a b hi hn hinfo hcomp]

/-! ### closed facts on the program s types: 45: a pointer to Fault, 46: Errno, 54: a pointer to 45, 57: a pointer to 46, 25: error, 91: the type s handle; 4 package-level variables -/
theorem comp46 : (Tryz.prog.info? 93).map (·.comparable) = some true := by kernel_rfl
theorem typeOf46 (v : Value) (w : World) : (ReflectliteType.typeOf #[.iface 93 v]).run Tryz.prog w = .ok (.iface 184 (.agg #[.pointer (some ⟨7, 93, none⟩)])) w := by kernel_rfl
theorem typeOf45 (v : Value) (w : World) : (ReflectliteType.typeOf #[.iface 77 v]).run Tryz.prog w = .ok (.iface 184 (.agg #[.pointer (some ⟨7, 77, none⟩)])) w := by kernel_rfl
def cmpEntry : Array Value → Sem Value := ReflectliteType.method fun t => do Rtype.noPackHeld "Comparable" t; pure (.bool (← typeInfo t).comparable)
theorem call86 (args : Array Value) (w : World) : (callFunc 196 args).run Tryz.prog w = ((cmpEntry args).run Tryz.prog w).andThen fun v w' => .ok (.value v) w' :=
  run_callFunc_extern Tryz.func196 (by kernel_rfl) (by kernel_rfl) (by kernel_rfl) (by kernel_rfl) args w
theorem cmp46 (w : World) : (cmpEntry #[.agg #[.pointer (some ⟨7, 93, none⟩)]]).run Tryz.prog w = .ok (.bool true) w := by kernel_rfl
theorem mComparable (v : Value) (w : World) : (Go.method 379 184 v "Comparable").run Tryz.prog w = .ok (196, v) w := by kernel_rfl
theorem noIs45 (v : Value) (xT : TypeId) (w : World) : (Instr.typeAssert (.iface 77 v) xT 186 true).run Tryz.prog w = .ok (.tuple #[.nilIface, .bool false]) w := run_typeAssert_lacksB Tryz.underlying186 (by kernel_rfl) (by kernel_rfl) v xT w
theorem noIs46 (v : Value) (xT : TypeId) (w : World) : (Instr.typeAssert (.iface 93 v) xT 186 true).run Tryz.prog w = .ok (.tuple #[.nilIface, .bool false]) w := run_typeAssert_lacksB Tryz.underlying186 (by kernel_rfl) (by kernel_rfl) v xT w
theorem hasUnwrap45 (v : Value) (xT : TypeId) (w : World) : (Instr.typeAssert (.iface 77 v) xT 189 true).run Tryz.prog w = .ok (.tuple #[.iface 77 v, .bool true]) w := run_typeAssert_hasB Tryz.underlying189 (by kernel_rfl) v xT w
theorem noUnwrap46 (v : Value) (xT : TypeId) (w : World) : (Instr.typeAssert (.iface 93 v) xT 189 true).run Tryz.prog w = .ok (.tuple #[.nilIface, .bool false]) w := run_typeAssert_lacksB Tryz.underlying189 (by kernel_rfl) (by kernel_rfl) v xT w
theorem noUnwraps46 (v : Value) (xT : TypeId) (w : World) : (Instr.typeAssert (.iface 93 v) xT 191 true).run Tryz.prog w = .ok (.tuple #[.nilIface, .bool false]) w := run_typeAssert_lacksB Tryz.underlying191 (by kernel_rfl) (by kernel_rfl) v xT w
theorem noAs46 (v : Value) (xT : TypeId) (w : World) : (Instr.typeAssert (.iface 93 v) xT 196 true).run Tryz.prog w = .ok (.tuple #[.nilIface, .bool false]) w := run_typeAssert_lacksB Tryz.underlying196 (by kernel_rfl) (by kernel_rfl) v xT w
theorem mUnwrap (v : Value) (w : World) : (Go.method 379 77 v "Unwrap").run Tryz.prog w = .ok (188, v) w := by kernel_rfl

end Go.Proofs.YtdpjipphbhomkaaGreatDoor.Err
