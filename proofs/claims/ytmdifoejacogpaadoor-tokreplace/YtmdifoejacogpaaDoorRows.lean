/-
  NARROWER THAN 'FOR EVERY INPUT', by the rows' own cells (each row's printed sentence says how): TokLine: laid · TokReplace: laid · TokNumbers: laid · TokBlanks: laid · TokJoined: laid.
  DERIVED. THE GIVEN ROWS OF THIS SEAT. 5 by the template 'for every input the law returns true; each argument reads behind the call as it read before'; 0 by the template 'total and deterministic' (their statements: YtmdifoejacogpaaDoorTotals.lean).
  GIVEN WITH THE SEED: the statements are not yours to turn. If you find one false, say at which input.
  Laid BY PROGRAM, IN A SANDBOX (cutbox-rows.mjs): the forced cells as the released guide's own fill.sh prints them over the translation ca5156635372d567… (all of the seat's roots in one cut). By AI agents, Wed Nov 11 2026. No macro, syntax, notation, axiom, sorry.
-/
import Derived.Test.YtmdifoejacogpaaDoorChecked
import GoSem.PinnedTables
import GoSem.Claim
import GoSem.ClaimJoined
import GoSem.ClaimMapViews
import Derived.JoinedTies
import Derived.KernelRfl
namespace Go.Proofs.YtmdifoejacogpaaDoor
/- THE CELL 'sum', in the pinned program and in every row, IS THE sha256 OF THE DUMP (.gsa) THAT YtmdifoejacogpaaDoorProg.lean LOADS. Nothing in Lean hashes anything: it is a label: what it is worth is what the hold of that sum in a sandbox is worth. -/
noncomputable def Tryd.pinned : Pinned := { name := "ytmdifoejacogpaadoor", sum := "ca5156635372d567e3c72bbafd98f0e44b1eb46b1d9001952d7415f0b5d4068b", checked := Tryd.checked }
namespace Rows
def none {H : Type} : Left H := { results := [], args := [] }

/- WHAT THE LISTED PACKAGE-LEVEL VARIABLES READ AS WHEN THE CALL BEGINS. Each datum BY PROGRAM (the guide's laid-datum.mjs) off the statement by which the dump's own 'gosem.cut.vars' lays the variable. In a bare row this is a premise. The card (YtmdifoejacogpaaDoorCards.lean) ties it to the program's text. -/
def laid_unicode_utf8_acceptRanges {H : Type} : DataW H := .agg [.agg [.lit (.int .u8 128), .lit (.int .u8 191)], .agg [.lit (.int .u8 160), .lit (.int .u8 191)], .agg [.lit (.int .u8 128), .lit (.int .u8 159)], .agg [.lit (.int .u8 144), .lit (.int .u8 191)], .agg [.lit (.int .u8 128), .lit (.int .u8 143)], .agg [.lit (.int .u8 0), .lit (.int .u8 0)], .agg [.lit (.int .u8 0), .lit (.int .u8 0)], .agg [.lit (.int .u8 0), .lit (.int .u8 0)], .agg [.lit (.int .u8 0), .lit (.int .u8 0)], .agg [.lit (.int .u8 0), .lit (.int .u8 0)], .agg [.lit (.int .u8 0), .lit (.int .u8 0)], .agg [.lit (.int .u8 0), .lit (.int .u8 0)], .agg [.lit (.int .u8 0), .lit (.int .u8 0)], .agg [.lit (.int .u8 0), .lit (.int .u8 0)], .agg [.lit (.int .u8 0), .lit (.int .u8 0)], .agg [.lit (.int .u8 0), .lit (.int .u8 0)]]
def laid_errors_errorType {H : Type} : DataW H := .iface "internal/reflectlite.rtype" (.agg [.ptr (.lit (.string [101, 114, 114, 111, 114]))])
/-- One of Go's own tables, pinned by name: the form's constant. -/
def laid_unicode_utf8_first : DataW Unit := Go.Pinned.utf8First

/-- 'furrowlaw4.TokLine': WHATEVER THE INPUT: true; the input reads as it did. -/
def tokLineSpec : ChangeSpec := { name := "tokLine", fn := fun _ => fun
  | [d] => { results := [.lit (.bool true)], args := [d] }
  | _ => none }
def tokLineRow : OpenClaim := { program := "ytmdifoejacogpaadoor", sum := "ca5156635372d567e3c72bbafd98f0e44b1eb46b1d9001952d7415f0b5d4068b", func := "furrow/furrowlaw4.TokLine", spec := "tokLine", inPlace := ["internal/bytealg.IndexByteString", "internal/bytealg.IndexString", "internal/abi.NoEscape", "internal/reflectlite.TypeOf", "internal/reflectlite.ValueOf", "(internal/reflectlite.Value).Type", "(internal/reflectlite.Value).IsNil", "(internal/reflectlite.Value).Elem", "(internal/reflectlite.Value).Set"], unfollowed := true, recurses := true, named := ["unicode/utf8.first", "unicode/utf8.acceptRanges", "errors.errorType", "internal/bytealg.MaxLen"], apart := false, laid := [("unicode/utf8.acceptRanges", laid_unicode_utf8_acceptRanges), ("errors.errorType", laid_errors_errorType), ("unicode/utf8.first", laid_unicode_utf8_first)] }
def TokLineSaid : Prop := tokLineRow.holds Tryd.pinned (OpenSpec.ofChange tokLineSpec)

/-- ITS FALSE NEIGHBOUR: 'it returns false'. Refute it at one input. -/
def tokLineWrong : ChangeSpec := { name := "tokLine", fn := fun _ => fun
  | [d] => { results := [.lit (.bool false)], args := [d] }
  | _ => none }
def TokLineWrongFalsely : Prop := tokLineRow.holds Tryd.pinned (OpenSpec.ofChange tokLineWrong)

/-- 'furrowlaw4.TokReplace': WHATEVER THE INPUT: true; the input reads as it did. -/
def tokReplaceSpec : ChangeSpec := { name := "tokReplace", fn := fun _ => fun
  | [d1, d2, d3] => { results := [.lit (.bool true)], args := [d1, d2, d3] }
  | _ => none }
def tokReplaceRow : OpenClaim := { program := "ytmdifoejacogpaadoor", sum := "ca5156635372d567e3c72bbafd98f0e44b1eb46b1d9001952d7415f0b5d4068b", func := "furrow/furrowlaw4.TokReplace", spec := "tokReplace", inPlace := ["internal/bytealg.IndexByteString", "internal/bytealg.IndexString", "internal/abi.NoEscape"], unfollowed := true, recurses := true, named := ["unicode/utf8.first", "unicode/utf8.acceptRanges", "internal/bytealg.MaxLen"], apart := false, laid := [("unicode/utf8.acceptRanges", laid_unicode_utf8_acceptRanges), ("unicode/utf8.first", laid_unicode_utf8_first)] }
def TokReplaceSaid : Prop := tokReplaceRow.holds Tryd.pinned (OpenSpec.ofChange tokReplaceSpec)

/-- ITS FALSE NEIGHBOUR: 'it returns false'. Refute it at one input. -/
def tokReplaceWrong : ChangeSpec := { name := "tokReplace", fn := fun _ => fun
  | [d1, d2, d3] => { results := [.lit (.bool false)], args := [d1, d2, d3] }
  | _ => none }
def TokReplaceWrongFalsely : Prop := tokReplaceRow.holds Tryd.pinned (OpenSpec.ofChange tokReplaceWrong)

/-- 'furrowlaw4.TokNumbers': WHATEVER THE INPUT: true; the input reads as it did. -/
def tokNumbersSpec : ChangeSpec := { name := "tokNumbers", fn := fun _ => fun
  | [d1, d2] => { results := [.lit (.bool true)], args := [d1, d2] }
  | _ => none }
def tokNumbersRow : OpenClaim := { program := "ytmdifoejacogpaadoor", sum := "ca5156635372d567e3c72bbafd98f0e44b1eb46b1d9001952d7415f0b5d4068b", func := "furrow/furrowlaw4.TokNumbers", spec := "tokNumbers", inPlace := ["internal/bytealg.IndexByteString", "internal/bytealg.IndexString", "internal/abi.NoEscape", "internal/reflectlite.TypeOf", "internal/reflectlite.ValueOf", "(internal/reflectlite.Value).Type", "(internal/reflectlite.Value).IsNil", "(internal/reflectlite.Value).Elem", "(internal/reflectlite.Value).Set"], unfollowed := true, recurses := true, named := ["unicode/utf8.first", "unicode/utf8.acceptRanges", "errors.errorType", "internal/bytealg.MaxLen"], apart := false, laid := [("unicode/utf8.acceptRanges", laid_unicode_utf8_acceptRanges), ("errors.errorType", laid_errors_errorType), ("unicode/utf8.first", laid_unicode_utf8_first)] }
def TokNumbersSaid : Prop := tokNumbersRow.holds Tryd.pinned (OpenSpec.ofChange tokNumbersSpec)

/-- ITS FALSE NEIGHBOUR: 'it returns false'. Refute it at one input. -/
def tokNumbersWrong : ChangeSpec := { name := "tokNumbers", fn := fun _ => fun
  | [d1, d2] => { results := [.lit (.bool false)], args := [d1, d2] }
  | _ => none }
def TokNumbersWrongFalsely : Prop := tokNumbersRow.holds Tryd.pinned (OpenSpec.ofChange tokNumbersWrong)

/-- 'furrowlaw4.TokBlanks': WHATEVER THE INPUT: true; the input reads as it did. -/
def tokBlanksSpec : ChangeSpec := { name := "tokBlanks", fn := fun _ => fun
  | [d1, d2] => { results := [.lit (.bool true)], args := [d1, d2] }
  | _ => none }
def tokBlanksRow : OpenClaim := { program := "ytmdifoejacogpaadoor", sum := "ca5156635372d567e3c72bbafd98f0e44b1eb46b1d9001952d7415f0b5d4068b", func := "furrow/furrowlaw4.TokBlanks", spec := "tokBlanks", inPlace := ["internal/bytealg.IndexByteString", "internal/bytealg.IndexString", "internal/abi.NoEscape"], unfollowed := true, recurses := true, named := ["unicode/utf8.first", "unicode/utf8.acceptRanges", "internal/bytealg.MaxLen"], apart := false, laid := [("unicode/utf8.acceptRanges", laid_unicode_utf8_acceptRanges), ("unicode/utf8.first", laid_unicode_utf8_first)] }
def TokBlanksSaid : Prop := tokBlanksRow.holds Tryd.pinned (OpenSpec.ofChange tokBlanksSpec)

/-- ITS FALSE NEIGHBOUR: 'it returns false'. Refute it at one input. -/
def tokBlanksWrong : ChangeSpec := { name := "tokBlanks", fn := fun _ => fun
  | [d1, d2] => { results := [.lit (.bool false)], args := [d1, d2] }
  | _ => none }
def TokBlanksWrongFalsely : Prop := tokBlanksRow.holds Tryd.pinned (OpenSpec.ofChange tokBlanksWrong)

/-- 'furrowlaw4.TokJoined': WHATEVER THE INPUT: true; the input reads as it did. -/
def tokJoinedSpec : ChangeSpec := { name := "tokJoined", fn := fun _ => fun
  | [d1, d2] => { results := [.lit (.bool true)], args := [d1, d2] }
  | _ => none }
def tokJoinedRow : OpenClaim := { program := "ytmdifoejacogpaadoor", sum := "ca5156635372d567e3c72bbafd98f0e44b1eb46b1d9001952d7415f0b5d4068b", func := "furrow/furrowlaw4.TokJoined", spec := "tokJoined", inPlace := ["internal/bytealg.IndexByteString", "internal/bytealg.IndexString", "internal/abi.NoEscape"], unfollowed := true, recurses := true, named := ["unicode/utf8.first", "unicode/utf8.acceptRanges", "internal/bytealg.MaxLen"], apart := false, laid := [("unicode/utf8.acceptRanges", laid_unicode_utf8_acceptRanges), ("unicode/utf8.first", laid_unicode_utf8_first)] }
def TokJoinedSaid : Prop := tokJoinedRow.holds Tryd.pinned (OpenSpec.ofChange tokJoinedSpec)

/-- ITS FALSE NEIGHBOUR: 'it returns false'. Refute it at one input. -/
def tokJoinedWrong : ChangeSpec := { name := "tokJoined", fn := fun _ => fun
  | [d1, d2] => { results := [.lit (.bool false)], args := [d1, d2] }
  | _ => none }
def TokJoinedWrongFalsely : Prop := tokJoinedRow.holds Tryd.pinned (OpenSpec.ofChange tokJoinedWrong)

/- THE SECOND FORM. 'bulk': how many values and letters a reading holds, each counted each time it is reached (what is shared counts as often as it is met; a slice's spare places count too). A statement '..UptoSaid' is the law's where the arguments, and the package variables that the reading takes, are together of bulk at most 1048576: NARROWER than '..Said'. Prove '..Said' where nothing that the law and all that it calls make is longer than what came in: it says more and counts as full. Else prove '..UptoSaid'. A law counts once. -/
mutual
def uptoBulk {H : Type} : DataW H → Nat
  | .lit (.string bytes) => bytes.length + 1
  | .lit _ => 1
  | .nil => 1
  | .ptr d => uptoBulk d + 1
  | .slice elems spare => uptoBulkAll elems + uptoBulkAll spare + 1
  | .agg parts => uptoBulkAll parts + 1
  | .iface _ d => uptoBulk d + 1
  | .map entries => uptoBulkEntries entries + 1
  | .held _ => 1
def uptoBulkAll {H : Type} : List (DataW H) → Nat
  | [] => 0
  | d :: r => uptoBulk d + uptoBulkAll r
def uptoBulkEntries {H : Type} : List (Lit × DataW H) → Nat
  | [] => 0
  | x :: r => uptoBulkEntry x + uptoBulkEntries r
def uptoBulkEntry {H : Type} : Lit × DataW H → Nat
  | (.string bytes, d) => bytes.length + uptoBulk d + 1
  | (_, d) => uptoBulk d + 1
 end
def uptoSmall : (H : Type) → List (DataW H) → Bool := fun _ ds => decide (uptoBulkAll ds ≤ 1048576)
def OpenSpec.upto (s : _root_.Go.ChangeSpec) : _root_.Go.OpenSpec := { _root_.Go.OpenSpec.ofChange s with cond := some uptoSmall }

/-- 'furrowlaw4.TokLine', WHERE WHAT IT READS IS OF BULK AT MOST 1048576: true; the input reads as it did. -/
def tokLineUptoRow : OpenClaim := { program := "ytmdifoejacogpaadoor", sum := "ca5156635372d567e3c72bbafd98f0e44b1eb46b1d9001952d7415f0b5d4068b", func := "furrow/furrowlaw4.TokLine", spec := "tokLine", inPlace := ["internal/bytealg.IndexByteString", "internal/bytealg.IndexString", "internal/abi.NoEscape", "internal/reflectlite.TypeOf", "internal/reflectlite.ValueOf", "(internal/reflectlite.Value).Type", "(internal/reflectlite.Value).IsNil", "(internal/reflectlite.Value).Elem", "(internal/reflectlite.Value).Set"], unfollowed := true, recurses := true, named := ["unicode/utf8.first", "unicode/utf8.acceptRanges", "errors.errorType", "internal/bytealg.MaxLen"], apart := false, laid := [("unicode/utf8.acceptRanges", laid_unicode_utf8_acceptRanges), ("errors.errorType", laid_errors_errorType), ("unicode/utf8.first", laid_unicode_utf8_first)], narrowed := true }
def TokLineUptoSaid : Prop := tokLineUptoRow.holds Tryd.pinned (OpenSpec.upto tokLineSpec)

/-- 'furrowlaw4.TokReplace', WHERE WHAT IT READS IS OF BULK AT MOST 1048576: true; the input reads as it did. -/
def tokReplaceUptoRow : OpenClaim := { program := "ytmdifoejacogpaadoor", sum := "ca5156635372d567e3c72bbafd98f0e44b1eb46b1d9001952d7415f0b5d4068b", func := "furrow/furrowlaw4.TokReplace", spec := "tokReplace", inPlace := ["internal/bytealg.IndexByteString", "internal/bytealg.IndexString", "internal/abi.NoEscape"], unfollowed := true, recurses := true, named := ["unicode/utf8.first", "unicode/utf8.acceptRanges", "internal/bytealg.MaxLen"], apart := false, laid := [("unicode/utf8.acceptRanges", laid_unicode_utf8_acceptRanges), ("unicode/utf8.first", laid_unicode_utf8_first)], narrowed := true }
def TokReplaceUptoSaid : Prop := tokReplaceUptoRow.holds Tryd.pinned (OpenSpec.upto tokReplaceSpec)

/-- 'furrowlaw4.TokNumbers', WHERE WHAT IT READS IS OF BULK AT MOST 1048576: true; the input reads as it did. -/
def tokNumbersUptoRow : OpenClaim := { program := "ytmdifoejacogpaadoor", sum := "ca5156635372d567e3c72bbafd98f0e44b1eb46b1d9001952d7415f0b5d4068b", func := "furrow/furrowlaw4.TokNumbers", spec := "tokNumbers", inPlace := ["internal/bytealg.IndexByteString", "internal/bytealg.IndexString", "internal/abi.NoEscape", "internal/reflectlite.TypeOf", "internal/reflectlite.ValueOf", "(internal/reflectlite.Value).Type", "(internal/reflectlite.Value).IsNil", "(internal/reflectlite.Value).Elem", "(internal/reflectlite.Value).Set"], unfollowed := true, recurses := true, named := ["unicode/utf8.first", "unicode/utf8.acceptRanges", "errors.errorType", "internal/bytealg.MaxLen"], apart := false, laid := [("unicode/utf8.acceptRanges", laid_unicode_utf8_acceptRanges), ("errors.errorType", laid_errors_errorType), ("unicode/utf8.first", laid_unicode_utf8_first)], narrowed := true }
def TokNumbersUptoSaid : Prop := tokNumbersUptoRow.holds Tryd.pinned (OpenSpec.upto tokNumbersSpec)

/-- 'furrowlaw4.TokBlanks', WHERE WHAT IT READS IS OF BULK AT MOST 1048576: true; the input reads as it did. -/
def tokBlanksUptoRow : OpenClaim := { program := "ytmdifoejacogpaadoor", sum := "ca5156635372d567e3c72bbafd98f0e44b1eb46b1d9001952d7415f0b5d4068b", func := "furrow/furrowlaw4.TokBlanks", spec := "tokBlanks", inPlace := ["internal/bytealg.IndexByteString", "internal/bytealg.IndexString", "internal/abi.NoEscape"], unfollowed := true, recurses := true, named := ["unicode/utf8.first", "unicode/utf8.acceptRanges", "internal/bytealg.MaxLen"], apart := false, laid := [("unicode/utf8.acceptRanges", laid_unicode_utf8_acceptRanges), ("unicode/utf8.first", laid_unicode_utf8_first)], narrowed := true }
def TokBlanksUptoSaid : Prop := tokBlanksUptoRow.holds Tryd.pinned (OpenSpec.upto tokBlanksSpec)

/-- 'furrowlaw4.TokJoined', WHERE WHAT IT READS IS OF BULK AT MOST 1048576: true; the input reads as it did. -/
def tokJoinedUptoRow : OpenClaim := { program := "ytmdifoejacogpaadoor", sum := "ca5156635372d567e3c72bbafd98f0e44b1eb46b1d9001952d7415f0b5d4068b", func := "furrow/furrowlaw4.TokJoined", spec := "tokJoined", inPlace := ["internal/bytealg.IndexByteString", "internal/bytealg.IndexString", "internal/abi.NoEscape"], unfollowed := true, recurses := true, named := ["unicode/utf8.first", "unicode/utf8.acceptRanges", "internal/bytealg.MaxLen"], apart := false, laid := [("unicode/utf8.acceptRanges", laid_unicode_utf8_acceptRanges), ("unicode/utf8.first", laid_unicode_utf8_first)], narrowed := true }
def TokJoinedUptoSaid : Prop := tokJoinedUptoRow.holds Tryd.pinned (OpenSpec.upto tokJoinedSpec)

end Rows
end Go.Proofs.YtmdifoejacogpaaDoor
