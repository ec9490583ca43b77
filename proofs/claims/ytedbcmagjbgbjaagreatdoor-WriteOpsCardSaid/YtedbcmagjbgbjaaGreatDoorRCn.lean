/- The reference's Cons, Nil. -/
import Derived.Test.YtedbcmagjbgbjaaGreatDoorRSm
import Derived.Test.YtedbcmagjbgbjaaGreatDoorLst
namespace Go.Proofs.YtedbcmagjbgbjaaGreatDoor.rcn
set_option linter.unusedVariables false
open Go.ChangeShapes Go.WideShapes Go.ChangeAt Go.RowKit
open Go.Proofs.YtedbcmagjbgbjaaGreatDoor.tm Go.Proofs.YtedbcmagjbgbjaaGreatDoor.lie Go.Proofs.YtedbcmagjbgbjaaGreatDoor.kp Go.Proofs.YtedbcmagjbgbjaaGreatDoor.cur Go.Proofs.YtedbcmagjbgbjaaGreatDoor.rws Go.Proofs.YtedbcmagjbgbjaaGreatDoor.sme Go.Proofs.YtedbcmagjbgbjaaGreatDoor.lst
def consB (t : Tm) : Bool := decide (t.kind = 5) && decide (t.name = DOT) && decide (t.args.length = 2)
def nilB (t : Tm) : Bool := decide (t.kind = 2) && decide (t.name = NIL)
end Go.Proofs.YtedbcmagjbgbjaaGreatDoor.rcn
