/-
  NARROWER THAN 'FOR EVERY INPUT', by the rows' own cells (each row's printed sentence says how): CopyApart: loops · CopyTwice: loops · CopyShares: loops · UnifyOne: loops · UnifyGeneral: loops · UnifyTwice: loops · UnifyOccurs: loops · OrderArgs: loops.
  DERIVED. THE GIVEN ROWS OF THIS SEAT. 9 by the template 'for every input the law returns true; each argument reads behind the call as it read before'; 0 by the template 'total and deterministic' (their statements: YthableojkjhicaaTotals.lean).
  GIVEN WITH THE SEED: the statements are not yours to turn. If you find one false, say at which input.
  Laid BY PROGRAM, IN A SANDBOX (cutbox-rows.mjs): the forced cells as the released guide's own fill.sh prints them over the translation a1a927a08a9d5398… (all of the seat's roots in one cut). By AI agents, Wed Nov 11 2026. No macro, syntax, notation, axiom, sorry.
-/
import Derived.Test.YthableojkjhicaaChecked
import GoSem.Claim
import GoSem.ClaimJoined
import GoSem.ClaimMapViews
import Derived.JoinedTies
import Derived.KernelRfl
namespace Go.Proofs.Ythableojkjhicaa
/- THE CELL 'sum', in the pinned program and in every row, IS THE sha256 OF THE DUMP (.gsa) THAT YthableojkjhicaaProg.lean LOADS. Nothing in Lean hashes anything: it is a label: what it is worth is what the hold of that sum in a sandbox is worth. -/
noncomputable def Try.pinned : Pinned := { name := "ythableojkjhicaa", sum := "a1a927a08a9d53989febd5ae32b3f723d7c1ea740f29e03e3154591e2286208d", checked := Try.checked }
namespace Rows
def none {H : Type} : Left H := { results := [], args := [] }

/-- 'elenchuslaw10.CopyNil': WHATEVER THE INPUT: true; the input reads as it did. -/
def copyNilSpec : ChangeSpec := { name := "copyNil", fn := fun _ => fun
  | [d] => { results := [.lit (.bool true)], args := [d] }
  | _ => none }
def copyNilRow : OpenClaim := { program := "ythableojkjhicaa", sum := "a1a927a08a9d53989febd5ae32b3f723d7c1ea740f29e03e3154591e2286208d", func := "elenchus/elenchuslaw10.CopyNil", spec := "copyNil", recurses := true, apart := false }
def CopyNilSaid : Prop := copyNilRow.holds Try.pinned (OpenSpec.ofChange copyNilSpec)

/-- ITS FALSE NEIGHBOUR: 'it returns false'. Refute it at one input. -/
def copyNilWrong : ChangeSpec := { name := "copyNil", fn := fun _ => fun
  | [d] => { results := [.lit (.bool false)], args := [d] }
  | _ => none }
def CopyNilWrongFalsely : Prop := copyNilRow.holds Try.pinned (OpenSpec.ofChange copyNilWrong)

/-- 'elenchuslaw10.CopyApart': WHATEVER THE INPUT: true; the input reads as it did. -/
def copyApartSpec : ChangeSpec := { name := "copyApart", fn := fun _ => fun
  | [d1, d2] => { results := [.lit (.bool true)], args := [d1, d2] }
  | _ => none }
def copyApartRow : OpenClaim := { program := "ythableojkjhicaa", sum := "a1a927a08a9d53989febd5ae32b3f723d7c1ea740f29e03e3154591e2286208d", func := "elenchus/elenchuslaw10.CopyApart", spec := "copyApart", recurses := true, loops := true, apart := false }
def CopyApartSaid : Prop := copyApartRow.holds Try.pinned (OpenSpec.ofChange copyApartSpec)

/-- ITS FALSE NEIGHBOUR: 'it returns false'. Refute it at one input. -/
def copyApartWrong : ChangeSpec := { name := "copyApart", fn := fun _ => fun
  | [d1, d2] => { results := [.lit (.bool false)], args := [d1, d2] }
  | _ => none }
def CopyApartWrongFalsely : Prop := copyApartRow.holds Try.pinned (OpenSpec.ofChange copyApartWrong)

/-- 'elenchuslaw10.CopyTwice': WHATEVER THE INPUT: true; the input reads as it did. -/
def copyTwiceSpec : ChangeSpec := { name := "copyTwice", fn := fun _ => fun
  | [d] => { results := [.lit (.bool true)], args := [d] }
  | _ => none }
def copyTwiceRow : OpenClaim := { program := "ythableojkjhicaa", sum := "a1a927a08a9d53989febd5ae32b3f723d7c1ea740f29e03e3154591e2286208d", func := "elenchus/elenchuslaw10.CopyTwice", spec := "copyTwice", recurses := true, loops := true, apart := false }
def CopyTwiceSaid : Prop := copyTwiceRow.holds Try.pinned (OpenSpec.ofChange copyTwiceSpec)

/-- ITS FALSE NEIGHBOUR: 'it returns false'. Refute it at one input. -/
def copyTwiceWrong : ChangeSpec := { name := "copyTwice", fn := fun _ => fun
  | [d] => { results := [.lit (.bool false)], args := [d] }
  | _ => none }
def CopyTwiceWrongFalsely : Prop := copyTwiceRow.holds Try.pinned (OpenSpec.ofChange copyTwiceWrong)

/-- 'elenchuslaw10.CopyShares': WHATEVER THE INPUT: true; the input reads as it did. -/
def copySharesSpec : ChangeSpec := { name := "copyShares", fn := fun _ => fun
  | [d] => { results := [.lit (.bool true)], args := [d] }
  | _ => none }
def copySharesRow : OpenClaim := { program := "ythableojkjhicaa", sum := "a1a927a08a9d53989febd5ae32b3f723d7c1ea740f29e03e3154591e2286208d", func := "elenchus/elenchuslaw10.CopyShares", spec := "copyShares", recurses := true, loops := true, apart := false }
def CopySharesSaid : Prop := copySharesRow.holds Try.pinned (OpenSpec.ofChange copySharesSpec)

/-- ITS FALSE NEIGHBOUR: 'it returns false'. Refute it at one input. -/
def copySharesWrong : ChangeSpec := { name := "copyShares", fn := fun _ => fun
  | [d] => { results := [.lit (.bool false)], args := [d] }
  | _ => none }
def CopySharesWrongFalsely : Prop := copySharesRow.holds Try.pinned (OpenSpec.ofChange copySharesWrong)

/-- 'elenchuslaw8.UnifyOne': WHATEVER THE INPUT: true; the input reads as it did. -/
def unifyOneSpec : ChangeSpec := { name := "unifyOne", fn := fun _ => fun
  | [d1, d2] => { results := [.lit (.bool true)], args := [d1, d2] }
  | _ => none }
def unifyOneRow : OpenClaim := { program := "ythableojkjhicaa", sum := "a1a927a08a9d53989febd5ae32b3f723d7c1ea740f29e03e3154591e2286208d", func := "elenchus/elenchuslaw8.UnifyOne", spec := "unifyOne", unfollowed := true, recurses := true, loops := true, apart := false }
def UnifyOneSaid : Prop := unifyOneRow.holds Try.pinned (OpenSpec.ofChange unifyOneSpec)

/-- ITS FALSE NEIGHBOUR: 'it returns false'. Refute it at one input. -/
def unifyOneWrong : ChangeSpec := { name := "unifyOne", fn := fun _ => fun
  | [d1, d2] => { results := [.lit (.bool false)], args := [d1, d2] }
  | _ => none }
def UnifyOneWrongFalsely : Prop := unifyOneRow.holds Try.pinned (OpenSpec.ofChange unifyOneWrong)

/-- 'elenchuslaw8.UnifyGeneral': WHATEVER THE INPUT: true; the input reads as it did. -/
def unifyGeneralSpec : ChangeSpec := { name := "unifyGeneral", fn := fun _ => fun
  | [d1, d2] => { results := [.lit (.bool true)], args := [d1, d2] }
  | _ => none }
def unifyGeneralRow : OpenClaim := { program := "ythableojkjhicaa", sum := "a1a927a08a9d53989febd5ae32b3f723d7c1ea740f29e03e3154591e2286208d", func := "elenchus/elenchuslaw8.UnifyGeneral", spec := "unifyGeneral", unfollowed := true, recurses := true, loops := true, apart := false }
def UnifyGeneralSaid : Prop := unifyGeneralRow.holds Try.pinned (OpenSpec.ofChange unifyGeneralSpec)

/-- ITS FALSE NEIGHBOUR: 'it returns false'. Refute it at one input. -/
def unifyGeneralWrong : ChangeSpec := { name := "unifyGeneral", fn := fun _ => fun
  | [d1, d2] => { results := [.lit (.bool false)], args := [d1, d2] }
  | _ => none }
def UnifyGeneralWrongFalsely : Prop := unifyGeneralRow.holds Try.pinned (OpenSpec.ofChange unifyGeneralWrong)

/-- 'elenchuslaw8.UnifyTwice': WHATEVER THE INPUT: true; the input reads as it did. -/
def unifyTwiceSpec : ChangeSpec := { name := "unifyTwice", fn := fun _ => fun
  | [d1, d2] => { results := [.lit (.bool true)], args := [d1, d2] }
  | _ => none }
def unifyTwiceRow : OpenClaim := { program := "ythableojkjhicaa", sum := "a1a927a08a9d53989febd5ae32b3f723d7c1ea740f29e03e3154591e2286208d", func := "elenchus/elenchuslaw8.UnifyTwice", spec := "unifyTwice", recurses := true, loops := true, apart := false }
def UnifyTwiceSaid : Prop := unifyTwiceRow.holds Try.pinned (OpenSpec.ofChange unifyTwiceSpec)

/-- ITS FALSE NEIGHBOUR: 'it returns false'. Refute it at one input. -/
def unifyTwiceWrong : ChangeSpec := { name := "unifyTwice", fn := fun _ => fun
  | [d1, d2] => { results := [.lit (.bool false)], args := [d1, d2] }
  | _ => none }
def UnifyTwiceWrongFalsely : Prop := unifyTwiceRow.holds Try.pinned (OpenSpec.ofChange unifyTwiceWrong)

/-- 'elenchuslaw8.UnifyOccurs': WHATEVER THE INPUT: true; the input reads as it did. -/
def unifyOccursSpec : ChangeSpec := { name := "unifyOccurs", fn := fun _ => fun
  | [d1, d2] => { results := [.lit (.bool true)], args := [d1, d2] }
  | _ => none }
def unifyOccursRow : OpenClaim := { program := "ythableojkjhicaa", sum := "a1a927a08a9d53989febd5ae32b3f723d7c1ea740f29e03e3154591e2286208d", func := "elenchus/elenchuslaw8.UnifyOccurs", spec := "unifyOccurs", recurses := true, loops := true, apart := false }
def UnifyOccursSaid : Prop := unifyOccursRow.holds Try.pinned (OpenSpec.ofChange unifyOccursSpec)

/-- ITS FALSE NEIGHBOUR: 'it returns false'. Refute it at one input. -/
def unifyOccursWrong : ChangeSpec := { name := "unifyOccurs", fn := fun _ => fun
  | [d1, d2] => { results := [.lit (.bool false)], args := [d1, d2] }
  | _ => none }
def UnifyOccursWrongFalsely : Prop := unifyOccursRow.holds Try.pinned (OpenSpec.ofChange unifyOccursWrong)

/-- 'elenchuslaw9.OrderArgs': WHATEVER THE INPUT: true; the input reads as it did. -/
def orderArgsSpec : ChangeSpec := { name := "orderArgs", fn := fun _ => fun
  | [d1, d2, d3, d4] => { results := [.lit (.bool true)], args := [d1, d2, d3, d4] }
  | _ => none }
def orderArgsRow : OpenClaim := { program := "ythableojkjhicaa", sum := "a1a927a08a9d53989febd5ae32b3f723d7c1ea740f29e03e3154591e2286208d", func := "elenchus/elenchuslaw9.OrderArgs", spec := "orderArgs", unfollowed := true, recurses := true, loops := true, apart := false }
def OrderArgsSaid : Prop := orderArgsRow.holds Try.pinned (OpenSpec.ofChange orderArgsSpec)

/-- ITS FALSE NEIGHBOUR: 'it returns false'. Refute it at one input. -/
def orderArgsWrong : ChangeSpec := { name := "orderArgs", fn := fun _ => fun
  | [d1, d2, d3, d4] => { results := [.lit (.bool false)], args := [d1, d2, d3, d4] }
  | _ => none }
def OrderArgsWrongFalsely : Prop := orderArgsRow.holds Try.pinned (OpenSpec.ofChange orderArgsWrong)

/- THE SECOND FORM. 'bulk': how many values and letters a reading holds, each counted each time it is reached (what is shared counts as often as it is met; a slice's spare places count too). A statement '..UptoSaid' is the law's where the arguments, and the package variables that the reading takes, are together of bulk at most 1048576: NARROWER than '..Said'. Prove '..Said' where nothing that the law and all that it calls make is longer than what came in: it says more and counts as full. Else prove '..UptoSaid'. A law counts once. -/
mutual
def uptoBulk {H : Type} : DataW H → Nat
  | .lit (.string bytes) => bytes.length + 1
  | .lit _ => 1
  | .nil => 1
  | .ptr d => uptoBulk d + 1
  | .slice elems spare => uptoBulkAll elems + uptoBulkAll spare + 1
  | .agg parts => uptoBulkAll parts + 1
  | .iface _ d => uptoBulk d + 1
  | .map entries => uptoBulkEntries entries + 1
  | .held _ => 1
def uptoBulkAll {H : Type} : List (DataW H) → Nat
  | [] => 0
  | d :: r => uptoBulk d + uptoBulkAll r
def uptoBulkEntries {H : Type} : List (Lit × DataW H) → Nat
  | [] => 0
  | x :: r => uptoBulkEntry x + uptoBulkEntries r
def uptoBulkEntry {H : Type} : Lit × DataW H → Nat
  | (.string bytes, d) => bytes.length + uptoBulk d + 1
  | (_, d) => uptoBulk d + 1
 end
def uptoSmall : (H : Type) → List (DataW H) → Bool := fun _ ds => decide (uptoBulkAll ds ≤ 1048576)
def OpenSpec.upto (s : _root_.Go.ChangeSpec) : _root_.Go.OpenSpec := { _root_.Go.OpenSpec.ofChange s with cond := some uptoSmall }

/-- 'elenchuslaw10.CopyNil', WHERE WHAT IT READS IS OF BULK AT MOST 1048576: true; the input reads as it did. -/
def copyNilUptoRow : OpenClaim := { program := "ythableojkjhicaa", sum := "a1a927a08a9d53989febd5ae32b3f723d7c1ea740f29e03e3154591e2286208d", func := "elenchus/elenchuslaw10.CopyNil", spec := "copyNil", recurses := true, apart := false, narrowed := true }
def CopyNilUptoSaid : Prop := copyNilUptoRow.holds Try.pinned (OpenSpec.upto copyNilSpec)

/-- 'elenchuslaw10.CopyApart', WHERE WHAT IT READS IS OF BULK AT MOST 1048576: true; the input reads as it did. -/
def copyApartUptoRow : OpenClaim := { program := "ythableojkjhicaa", sum := "a1a927a08a9d53989febd5ae32b3f723d7c1ea740f29e03e3154591e2286208d", func := "elenchus/elenchuslaw10.CopyApart", spec := "copyApart", recurses := true, loops := true, apart := false, narrowed := true }
def CopyApartUptoSaid : Prop := copyApartUptoRow.holds Try.pinned (OpenSpec.upto copyApartSpec)

/-- 'elenchuslaw10.CopyTwice', WHERE WHAT IT READS IS OF BULK AT MOST 1048576: true; the input reads as it did. -/
def copyTwiceUptoRow : OpenClaim := { program := "ythableojkjhicaa", sum := "a1a927a08a9d53989febd5ae32b3f723d7c1ea740f29e03e3154591e2286208d", func := "elenchus/elenchuslaw10.CopyTwice", spec := "copyTwice", recurses := true, loops := true, apart := false, narrowed := true }
def CopyTwiceUptoSaid : Prop := copyTwiceUptoRow.holds Try.pinned (OpenSpec.upto copyTwiceSpec)

/-- 'elenchuslaw10.CopyShares', WHERE WHAT IT READS IS OF BULK AT MOST 1048576: true; the input reads as it did. -/
def copySharesUptoRow : OpenClaim := { program := "ythableojkjhicaa", sum := "a1a927a08a9d53989febd5ae32b3f723d7c1ea740f29e03e3154591e2286208d", func := "elenchus/elenchuslaw10.CopyShares", spec := "copyShares", recurses := true, loops := true, apart := false, narrowed := true }
def CopySharesUptoSaid : Prop := copySharesUptoRow.holds Try.pinned (OpenSpec.upto copySharesSpec)

/-- 'elenchuslaw8.UnifyOne', WHERE WHAT IT READS IS OF BULK AT MOST 1048576: true; the input reads as it did. -/
def unifyOneUptoRow : OpenClaim := { program := "ythableojkjhicaa", sum := "a1a927a08a9d53989febd5ae32b3f723d7c1ea740f29e03e3154591e2286208d", func := "elenchus/elenchuslaw8.UnifyOne", spec := "unifyOne", unfollowed := true, recurses := true, loops := true, apart := false, narrowed := true }
def UnifyOneUptoSaid : Prop := unifyOneUptoRow.holds Try.pinned (OpenSpec.upto unifyOneSpec)

/-- 'elenchuslaw8.UnifyGeneral', WHERE WHAT IT READS IS OF BULK AT MOST 1048576: true; the input reads as it did. -/
def unifyGeneralUptoRow : OpenClaim := { program := "ythableojkjhicaa", sum := "a1a927a08a9d53989febd5ae32b3f723d7c1ea740f29e03e3154591e2286208d", func := "elenchus/elenchuslaw8.UnifyGeneral", spec := "unifyGeneral", unfollowed := true, recurses := true, loops := true, apart := false, narrowed := true }
def UnifyGeneralUptoSaid : Prop := unifyGeneralUptoRow.holds Try.pinned (OpenSpec.upto unifyGeneralSpec)

/-- 'elenchuslaw8.UnifyTwice', WHERE WHAT IT READS IS OF BULK AT MOST 1048576: true; the input reads as it did. -/
def unifyTwiceUptoRow : OpenClaim := { program := "ythableojkjhicaa", sum := "a1a927a08a9d53989febd5ae32b3f723d7c1ea740f29e03e3154591e2286208d", func := "elenchus/elenchuslaw8.UnifyTwice", spec := "unifyTwice", recurses := true, loops := true, apart := false, narrowed := true }
def UnifyTwiceUptoSaid : Prop := unifyTwiceUptoRow.holds Try.pinned (OpenSpec.upto unifyTwiceSpec)

/-- 'elenchuslaw8.UnifyOccurs', WHERE WHAT IT READS IS OF BULK AT MOST 1048576: true; the input reads as it did. -/
def unifyOccursUptoRow : OpenClaim := { program := "ythableojkjhicaa", sum := "a1a927a08a9d53989febd5ae32b3f723d7c1ea740f29e03e3154591e2286208d", func := "elenchus/elenchuslaw8.UnifyOccurs", spec := "unifyOccurs", recurses := true, loops := true, apart := false, narrowed := true }
def UnifyOccursUptoSaid : Prop := unifyOccursUptoRow.holds Try.pinned (OpenSpec.upto unifyOccursSpec)

/-- 'elenchuslaw9.OrderArgs', WHERE WHAT IT READS IS OF BULK AT MOST 1048576: true; the input reads as it did. -/
def orderArgsUptoRow : OpenClaim := { program := "ythableojkjhicaa", sum := "a1a927a08a9d53989febd5ae32b3f723d7c1ea740f29e03e3154591e2286208d", func := "elenchus/elenchuslaw9.OrderArgs", spec := "orderArgs", unfollowed := true, recurses := true, loops := true, apart := false, narrowed := true }
def OrderArgsUptoSaid : Prop := orderArgsUptoRow.holds Try.pinned (OpenSpec.upto orderArgsSpec)

end Rows
end Go.Proofs.Ythableojkjhicaa
