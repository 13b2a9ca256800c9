/- The edits that lead back, as plain data. -/
import Derived.Test.YtcfbigkmhboepaaDoorMemE
namespace Go.Proofs.YtcfbigkmhboepaaDoor.Line
set_option linter.unusedVariables false

def raw (e : Edits.Ed (List UInt8)) : RawE := ⟨e.f, e.t, e.n⟩
/-- the edits that lead back: none where the edits may not be -/
def backs (L : List (List UInt8)) (E : List RawE) : List RawE := if (Edits.errE (L.length : Int) E).1 = 0 then (Edits.bk L 0 0 (E.map Edits.nat)).map raw else []
end Go.Proofs.YtcfbigkmhboepaaDoor.Line
