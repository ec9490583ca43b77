/- The contracts of the page's own calls on complex numbers. -/
import Derived.Test.YtfobladliokfoaaDoorCpx
namespace Go.Proofs.YtfobladliokfoaaDoor.num
open Go.ChangeShapes Go.WideShapes Go.ChangeAt Go.RowKit
set_option linter.unusedVariables false
theorem ret_bool2 {x y : Bool} (h : x = y) : Ending.returned (.bool x) = .returned (.bool y) := by rw [h]
end Go.Proofs.YtfobladliokfoaaDoor.num
