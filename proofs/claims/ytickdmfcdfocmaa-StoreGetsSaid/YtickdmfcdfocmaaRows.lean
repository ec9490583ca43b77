/-
  NARROWER THAN 'FOR EVERY INPUT', by the rows' own cells (each row's printed sentence says how): UnifyOne: loops · UnifyGeneral: loops · UnifyTwice: loops · UnifyOccurs: loops · UnifyKinds: loops.
  DERIVED. THE GIVEN ROWS OF THIS SEAT. 8 by the template 'for every input the law returns true; each argument reads behind the call as it read before'; 0 by the template 'total and deterministic' (their statements: YtickdmfcdfocmaaTotals.lean).
  GIVEN WITH THE SEED: the statements are not yours to turn. If you find one false, say at which input.
  Laid BY PROGRAM, IN A SANDBOX (cutbox-rows.mjs): the forced cells as the released guide's own fill.sh prints them over the translation c48ff66313686018… (all of the seat's roots in one cut). By AI agents, Wed Nov 11 2026. No macro, syntax, notation, axiom, sorry.
-/
import Derived.Test.YtickdmfcdfocmaaChecked
import GoSem.Claim
import GoSem.ClaimJoined
import GoSem.ClaimMapViews
import Derived.JoinedTies
import Derived.KernelRfl
namespace Go.Proofs.Ytickdmfcdfocmaa
/- THE CELL 'sum', in the pinned program and in every row, IS THE sha256 OF THE DUMP (.gsa) THAT YtickdmfcdfocmaaProg.lean LOADS. Nothing in Lean hashes anything: it is a label: what it is worth is what the hold of that sum in a sandbox is worth. -/
noncomputable def Try.pinned : Pinned := { name := "ytickdmfcdfocmaa", sum := "c48ff66313686018ba57b14499158e78ef67ad80d88489e014adb3f17154538b", checked := Try.checked }
namespace Rows
def none {H : Type} : Left H := { results := [], args := [] }

/-- 'elenchuslaw7.StoreGets': WHATEVER THE INPUT: true; the input reads as it did. -/
def storeGetsSpec : ChangeSpec := { name := "storeGets", fn := fun _ => fun
  | [d1, d2, d3] => { results := [.lit (.bool true)], args := [d1, d2, d3] }
  | _ => none }
def storeGetsRow : OpenClaim := { program := "ytickdmfcdfocmaa", sum := "c48ff66313686018ba57b14499158e78ef67ad80d88489e014adb3f17154538b", func := "elenchus/elenchuslaw7.StoreGets", spec := "storeGets", recurses := true, apart := false }
def StoreGetsSaid : Prop := storeGetsRow.holds Try.pinned (OpenSpec.ofChange storeGetsSpec)

/-- ITS FALSE NEIGHBOUR: 'it returns false'. Refute it at one input. -/
def storeGetsWrong : ChangeSpec := { name := "storeGets", fn := fun _ => fun
  | [d1, d2, d3] => { results := [.lit (.bool false)], args := [d1, d2, d3] }
  | _ => none }
def StoreGetsWrongFalsely : Prop := storeGetsRow.holds Try.pinned (OpenSpec.ofChange storeGetsWrong)

/-- 'elenchuslaw8.UnifyCells': WHATEVER THE INPUT: true; the input reads as it did. -/
def unifyCellsSpec : ChangeSpec := { name := "unifyCells", fn := fun _ => fun
  | [d1, d2, d3, d4] => { results := [.lit (.bool true)], args := [d1, d2, d3, d4] }
  | _ => none }
def unifyCellsRow : OpenClaim := { program := "ytickdmfcdfocmaa", sum := "c48ff66313686018ba57b14499158e78ef67ad80d88489e014adb3f17154538b", func := "elenchus/elenchuslaw8.UnifyCells", spec := "unifyCells", recurses := true, apart := false }
def UnifyCellsSaid : Prop := unifyCellsRow.holds Try.pinned (OpenSpec.ofChange unifyCellsSpec)

/-- ITS FALSE NEIGHBOUR: 'it returns false'. Refute it at one input. -/
def unifyCellsWrong : ChangeSpec := { name := "unifyCells", fn := fun _ => fun
  | [d1, d2, d3, d4] => { results := [.lit (.bool false)], args := [d1, d2, d3, d4] }
  | _ => none }
def UnifyCellsWrongFalsely : Prop := unifyCellsRow.holds Try.pinned (OpenSpec.ofChange unifyCellsWrong)

/-- 'elenchuslaw8.UnifyNil': WHATEVER THE INPUT: true; the input reads as it did. -/
def unifyNilSpec : ChangeSpec := { name := "unifyNil", fn := fun _ => fun
  | [d1, d2] => { results := [.lit (.bool true)], args := [d1, d2] }
  | _ => none }
def unifyNilRow : OpenClaim := { program := "ytickdmfcdfocmaa", sum := "c48ff66313686018ba57b14499158e78ef67ad80d88489e014adb3f17154538b", func := "elenchus/elenchuslaw8.UnifyNil", spec := "unifyNil", recurses := true, apart := false }
def UnifyNilSaid : Prop := unifyNilRow.holds Try.pinned (OpenSpec.ofChange unifyNilSpec)

/-- ITS FALSE NEIGHBOUR: 'it returns false'. Refute it at one input. -/
def unifyNilWrong : ChangeSpec := { name := "unifyNil", fn := fun _ => fun
  | [d1, d2] => { results := [.lit (.bool false)], args := [d1, d2] }
  | _ => none }
def UnifyNilWrongFalsely : Prop := unifyNilRow.holds Try.pinned (OpenSpec.ofChange unifyNilWrong)

/-- 'elenchuslaw8.UnifyOne': WHATEVER THE INPUT: true; the input reads as it did. -/
def unifyOneSpec : ChangeSpec := { name := "unifyOne", fn := fun _ => fun
  | [d1, d2] => { results := [.lit (.bool true)], args := [d1, d2] }
  | _ => none }
def unifyOneRow : OpenClaim := { program := "ytickdmfcdfocmaa", sum := "c48ff66313686018ba57b14499158e78ef67ad80d88489e014adb3f17154538b", func := "elenchus/elenchuslaw8.UnifyOne", spec := "unifyOne", unfollowed := true, recurses := true, loops := true, apart := false }
def UnifyOneSaid : Prop := unifyOneRow.holds Try.pinned (OpenSpec.ofChange unifyOneSpec)

/-- ITS FALSE NEIGHBOUR: 'it returns false'. Refute it at one input. -/
def unifyOneWrong : ChangeSpec := { name := "unifyOne", fn := fun _ => fun
  | [d1, d2] => { results := [.lit (.bool false)], args := [d1, d2] }
  | _ => none }
def UnifyOneWrongFalsely : Prop := unifyOneRow.holds Try.pinned (OpenSpec.ofChange unifyOneWrong)

/-- 'elenchuslaw8.UnifyGeneral': WHATEVER THE INPUT: true; the input reads as it did. -/
def unifyGeneralSpec : ChangeSpec := { name := "unifyGeneral", fn := fun _ => fun
  | [d1, d2] => { results := [.lit (.bool true)], args := [d1, d2] }
  | _ => none }
def unifyGeneralRow : OpenClaim := { program := "ytickdmfcdfocmaa", sum := "c48ff66313686018ba57b14499158e78ef67ad80d88489e014adb3f17154538b", func := "elenchus/elenchuslaw8.UnifyGeneral", spec := "unifyGeneral", unfollowed := true, recurses := true, loops := true, apart := false }
def UnifyGeneralSaid : Prop := unifyGeneralRow.holds Try.pinned (OpenSpec.ofChange unifyGeneralSpec)

/-- ITS FALSE NEIGHBOUR: 'it returns false'. Refute it at one input. -/
def unifyGeneralWrong : ChangeSpec := { name := "unifyGeneral", fn := fun _ => fun
  | [d1, d2] => { results := [.lit (.bool false)], args := [d1, d2] }
  | _ => none }
def UnifyGeneralWrongFalsely : Prop := unifyGeneralRow.holds Try.pinned (OpenSpec.ofChange unifyGeneralWrong)

/-- 'elenchuslaw8.UnifyTwice': WHATEVER THE INPUT: true; the input reads as it did. -/
def unifyTwiceSpec : ChangeSpec := { name := "unifyTwice", fn := fun _ => fun
  | [d1, d2] => { results := [.lit (.bool true)], args := [d1, d2] }
  | _ => none }
def unifyTwiceRow : OpenClaim := { program := "ytickdmfcdfocmaa", sum := "c48ff66313686018ba57b14499158e78ef67ad80d88489e014adb3f17154538b", func := "elenchus/elenchuslaw8.UnifyTwice", spec := "unifyTwice", recurses := true, loops := true, apart := false }
def UnifyTwiceSaid : Prop := unifyTwiceRow.holds Try.pinned (OpenSpec.ofChange unifyTwiceSpec)

/-- ITS FALSE NEIGHBOUR: 'it returns false'. Refute it at one input. -/
def unifyTwiceWrong : ChangeSpec := { name := "unifyTwice", fn := fun _ => fun
  | [d1, d2] => { results := [.lit (.bool false)], args := [d1, d2] }
  | _ => none }
def UnifyTwiceWrongFalsely : Prop := unifyTwiceRow.holds Try.pinned (OpenSpec.ofChange unifyTwiceWrong)

/-- 'elenchuslaw8.UnifyOccurs': WHATEVER THE INPUT: true; the input reads as it did. -/
def unifyOccursSpec : ChangeSpec := { name := "unifyOccurs", fn := fun _ => fun
  | [d1, d2] => { results := [.lit (.bool true)], args := [d1, d2] }
  | _ => none }
def unifyOccursRow : OpenClaim := { program := "ytickdmfcdfocmaa", sum := "c48ff66313686018ba57b14499158e78ef67ad80d88489e014adb3f17154538b", func := "elenchus/elenchuslaw8.UnifyOccurs", spec := "unifyOccurs", recurses := true, loops := true, apart := false }
def UnifyOccursSaid : Prop := unifyOccursRow.holds Try.pinned (OpenSpec.ofChange unifyOccursSpec)

/-- ITS FALSE NEIGHBOUR: 'it returns false'. Refute it at one input. -/
def unifyOccursWrong : ChangeSpec := { name := "unifyOccurs", fn := fun _ => fun
  | [d1, d2] => { results := [.lit (.bool false)], args := [d1, d2] }
  | _ => none }
def UnifyOccursWrongFalsely : Prop := unifyOccursRow.holds Try.pinned (OpenSpec.ofChange unifyOccursWrong)

/-- 'elenchuslaw8.UnifyKinds': WHATEVER THE INPUT: true; the input reads as it did. -/
def unifyKindsSpec : ChangeSpec := { name := "unifyKinds", fn := fun _ => fun
  | [d1, d2] => { results := [.lit (.bool true)], args := [d1, d2] }
  | _ => none }
def unifyKindsRow : OpenClaim := { program := "ytickdmfcdfocmaa", sum := "c48ff66313686018ba57b14499158e78ef67ad80d88489e014adb3f17154538b", func := "elenchus/elenchuslaw8.UnifyKinds", spec := "unifyKinds", recurses := true, loops := true, apart := false }
def UnifyKindsSaid : Prop := unifyKindsRow.holds Try.pinned (OpenSpec.ofChange unifyKindsSpec)

/-- ITS FALSE NEIGHBOUR: 'it returns false'. Refute it at one input. -/
def unifyKindsWrong : ChangeSpec := { name := "unifyKinds", fn := fun _ => fun
  | [d1, d2] => { results := [.lit (.bool false)], args := [d1, d2] }
  | _ => none }
def UnifyKindsWrongFalsely : Prop := unifyKindsRow.holds Try.pinned (OpenSpec.ofChange unifyKindsWrong)

/- THE SECOND FORM. 'bulk': how many values and letters a reading holds, each counted each time it is reached (what is shared counts as often as it is met; a slice's spare places count too). A statement '..UptoSaid' is the law's where the arguments, and the package variables that the reading takes, are together of bulk at most 1048576: NARROWER than '..Said'. Prove '..Said' where nothing that the law and all that it calls make is longer than what came in: it says more and counts as full. Else prove '..UptoSaid'. A law counts once. -/
mutual
def uptoBulk {H : Type} : DataW H → Nat
  | .lit (.string bytes) => bytes.length + 1
  | .lit _ => 1
  | .nil => 1
  | .ptr d => uptoBulk d + 1
  | .slice elems spare => uptoBulkAll elems + uptoBulkAll spare + 1
  | .agg parts => uptoBulkAll parts + 1
  | .iface _ d => uptoBulk d + 1
  | .map entries => uptoBulkEntries entries + 1
  | .held _ => 1
def uptoBulkAll {H : Type} : List (DataW H) → Nat
  | [] => 0
  | d :: r => uptoBulk d + uptoBulkAll r
def uptoBulkEntries {H : Type} : List (Lit × DataW H) → Nat
  | [] => 0
  | x :: r => uptoBulkEntry x + uptoBulkEntries r
def uptoBulkEntry {H : Type} : Lit × DataW H → Nat
  | (.string bytes, d) => bytes.length + uptoBulk d + 1
  | (_, d) => uptoBulk d + 1
 end
def uptoSmall : (H : Type) → List (DataW H) → Bool := fun _ ds => decide (uptoBulkAll ds ≤ 1048576)
def OpenSpec.upto (s : _root_.Go.ChangeSpec) : _root_.Go.OpenSpec := { _root_.Go.OpenSpec.ofChange s with cond := some uptoSmall }

/-- 'elenchuslaw7.StoreGets', WHERE WHAT IT READS IS OF BULK AT MOST 1048576: true; the input reads as it did. -/
def storeGetsUptoRow : OpenClaim := { program := "ytickdmfcdfocmaa", sum := "c48ff66313686018ba57b14499158e78ef67ad80d88489e014adb3f17154538b", func := "elenchus/elenchuslaw7.StoreGets", spec := "storeGets", recurses := true, apart := false, narrowed := true }
def StoreGetsUptoSaid : Prop := storeGetsUptoRow.holds Try.pinned (OpenSpec.upto storeGetsSpec)

/-- 'elenchuslaw8.UnifyCells', WHERE WHAT IT READS IS OF BULK AT MOST 1048576: true; the input reads as it did. -/
def unifyCellsUptoRow : OpenClaim := { program := "ytickdmfcdfocmaa", sum := "c48ff66313686018ba57b14499158e78ef67ad80d88489e014adb3f17154538b", func := "elenchus/elenchuslaw8.UnifyCells", spec := "unifyCells", recurses := true, apart := false, narrowed := true }
def UnifyCellsUptoSaid : Prop := unifyCellsUptoRow.holds Try.pinned (OpenSpec.upto unifyCellsSpec)

/-- 'elenchuslaw8.UnifyNil', WHERE WHAT IT READS IS OF BULK AT MOST 1048576: true; the input reads as it did. -/
def unifyNilUptoRow : OpenClaim := { program := "ytickdmfcdfocmaa", sum := "c48ff66313686018ba57b14499158e78ef67ad80d88489e014adb3f17154538b", func := "elenchus/elenchuslaw8.UnifyNil", spec := "unifyNil", recurses := true, apart := false, narrowed := true }
def UnifyNilUptoSaid : Prop := unifyNilUptoRow.holds Try.pinned (OpenSpec.upto unifyNilSpec)

/-- 'elenchuslaw8.UnifyOne', WHERE WHAT IT READS IS OF BULK AT MOST 1048576: true; the input reads as it did. -/
def unifyOneUptoRow : OpenClaim := { program := "ytickdmfcdfocmaa", sum := "c48ff66313686018ba57b14499158e78ef67ad80d88489e014adb3f17154538b", func := "elenchus/elenchuslaw8.UnifyOne", spec := "unifyOne", unfollowed := true, recurses := true, loops := true, apart := false, narrowed := true }
def UnifyOneUptoSaid : Prop := unifyOneUptoRow.holds Try.pinned (OpenSpec.upto unifyOneSpec)

/-- 'elenchuslaw8.UnifyGeneral', WHERE WHAT IT READS IS OF BULK AT MOST 1048576: true; the input reads as it did. -/
def unifyGeneralUptoRow : OpenClaim := { program := "ytickdmfcdfocmaa", sum := "c48ff66313686018ba57b14499158e78ef67ad80d88489e014adb3f17154538b", func := "elenchus/elenchuslaw8.UnifyGeneral", spec := "unifyGeneral", unfollowed := true, recurses := true, loops := true, apart := false, narrowed := true }
def UnifyGeneralUptoSaid : Prop := unifyGeneralUptoRow.holds Try.pinned (OpenSpec.upto unifyGeneralSpec)

/-- 'elenchuslaw8.UnifyTwice', WHERE WHAT IT READS IS OF BULK AT MOST 1048576: true; the input reads as it did. -/
def unifyTwiceUptoRow : OpenClaim := { program := "ytickdmfcdfocmaa", sum := "c48ff66313686018ba57b14499158e78ef67ad80d88489e014adb3f17154538b", func := "elenchus/elenchuslaw8.UnifyTwice", spec := "unifyTwice", recurses := true, loops := true, apart := false, narrowed := true }
def UnifyTwiceUptoSaid : Prop := unifyTwiceUptoRow.holds Try.pinned (OpenSpec.upto unifyTwiceSpec)

/-- 'elenchuslaw8.UnifyOccurs', WHERE WHAT IT READS IS OF BULK AT MOST 1048576: true; the input reads as it did. -/
def unifyOccursUptoRow : OpenClaim := { program := "ytickdmfcdfocmaa", sum := "c48ff66313686018ba57b14499158e78ef67ad80d88489e014adb3f17154538b", func := "elenchus/elenchuslaw8.UnifyOccurs", spec := "unifyOccurs", recurses := true, loops := true, apart := false, narrowed := true }
def UnifyOccursUptoSaid : Prop := unifyOccursUptoRow.holds Try.pinned (OpenSpec.upto unifyOccursSpec)

/-- 'elenchuslaw8.UnifyKinds', WHERE WHAT IT READS IS OF BULK AT MOST 1048576: true; the input reads as it did. -/
def unifyKindsUptoRow : OpenClaim := { program := "ytickdmfcdfocmaa", sum := "c48ff66313686018ba57b14499158e78ef67ad80d88489e014adb3f17154538b", func := "elenchus/elenchuslaw8.UnifyKinds", spec := "unifyKinds", recurses := true, loops := true, apart := false, narrowed := true }
def UnifyKindsUptoSaid : Prop := unifyKindsUptoRow.holds Try.pinned (OpenSpec.upto unifyKindsSpec)

end Rows
end Go.Proofs.Ytickdmfcdfocmaa
