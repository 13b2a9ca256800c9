/- The law's known, of the project's own functions. -/
import Derived.Test.YtmdifoejacogpaaDoorIsNameD
import Derived.Test.YtmdifoejacogpaaDoorReplaceD
namespace Go.Proofs.YtmdifoejacogpaaDoor.Line
open Go.ChangeShapes Go.WideShapes Go.ChangeAt Go.RowKit

theorem known_any : KnownSpec := known_walk line_any isKey_spec isName_spec replace_spec
end Go.Proofs.YtmdifoejacogpaaDoor.Line
