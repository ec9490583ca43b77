/- Small words on worlds that have only grown. -/
import Derived.Test.YtedbcmagjbgbjaaGreatDoorRows
import Derived.WalkKit
import Derived.ProofKit
import Derived.OpenShut
import Derived.Lib.Hide
namespace Go.Proofs.YtedbcmagjbgbjaaGreatDoor.num
open Go.ChangeShapes Go.WideShapes Go.ChangeAt Go.RowKit
theorem bt {a b c : World} (h : Below a.heap.size a b) (k : Below b.heap.size b c) : Below a.heap.size a c := h.trans (k.mono h.size)
theorem br (w : World) : Below w.heap.size w w := Below.refl _ _
theorem ba (w : World) (o : Obj) : Below w.heap.size w (w.alloc o) := (br w).alloc (Nat.le_refl _) o
theorem bdr (w : World) : Below w.heap.size w w.drew := (br w).drew
theorem rb {x y : Bool} (h : x = y) : Ending.returned (.bool x) = .returned (.bool y) := by rw [h]
end Go.Proofs.YtedbcmagjbgbjaaGreatDoor.num
