/-
  No cell of these rows narrows 'for every input' (looked for: loops, veiled, ifaces, maps, wideKeys, modest, calm, conditions, laid).
  DERIVED. THE GIVEN ROWS OF THIS SEAT. 6 by the template 'for every input the law returns true; each argument reads behind the call as it read before'; 0 by the template 'total and deterministic' (their statements: YtjdbppdanckfnaaTotals.lean).
  GIVEN WITH THE SEED: the statements are not yours to turn. If you find one false, say at which input.
  Laid BY PROGRAM, IN A SANDBOX (cutbox-rows.mjs): the forced cells as the released guide's own fill.sh prints them over the translation f6c5b7af3688f7fc… (all of the seat's roots in one cut). By AI agents, Wed Nov 11 2026. No macro, syntax, notation, axiom, sorry.
-/
import Derived.Test.YtjdbppdanckfnaaChecked
import GoSem.Claim
import GoSem.ClaimJoined
import GoSem.ClaimMapViews
import Derived.JoinedTies
import Derived.KernelRfl
namespace Go.Proofs.Ytjdbppdanckfnaa
/- THE CELL 'sum', in the pinned program and in every row, IS THE sha256 OF THE DUMP (.gsa) THAT YtjdbppdanckfnaaProg.lean LOADS. Nothing in Lean hashes anything: it is a label: what it is worth is what the hold of that sum in a sandbox is worth. -/
noncomputable def Try.pinned : Pinned := { name := "ytjdbppdanckfnaa", sum := "f6c5b7af3688f7fc2680a15a23b3029dfc6c5a038cc87113a18e965c1e9fd97d", checked := Try.checked }
namespace Rows
def none {H : Type} : Left H := { results := [], args := [] }

/-- 'elenchuslaw2.AtomsPlay': WHATEVER THE INPUT: true; the input reads as it did. -/
def atomsPlaySpec : ChangeSpec := { name := "atomsPlay", fn := fun _ => fun
  | [d1, d2, d3] => { results := [.lit (.bool true)], args := [d1, d2, d3] }
  | _ => none }
def atomsPlayRow : OpenClaim := { program := "ytjdbppdanckfnaa", sum := "f6c5b7af3688f7fc2680a15a23b3029dfc6c5a038cc87113a18e965c1e9fd97d", func := "elenchus/elenchuslaw2.AtomsPlay", spec := "atomsPlay", apart := false }
def AtomsPlaySaid : Prop := atomsPlayRow.holds Try.pinned (OpenSpec.ofChange atomsPlaySpec)

/-- ITS FALSE NEIGHBOUR: 'it returns false'. Refute it at one input. -/
def atomsPlayWrong : ChangeSpec := { name := "atomsPlay", fn := fun _ => fun
  | [d1, d2, d3] => { results := [.lit (.bool false)], args := [d1, d2, d3] }
  | _ => none }
def AtomsPlayWrongFalsely : Prop := atomsPlayRow.holds Try.pinned (OpenSpec.ofChange atomsPlayWrong)

/-- 'elenchuslaw2.AtomsMany': WHATEVER THE INPUT: true; the input reads as it did. -/
def atomsManySpec : ChangeSpec := { name := "atomsMany", fn := fun _ => fun
  | [d1, d2] => { results := [.lit (.bool true)], args := [d1, d2] }
  | _ => none }
def atomsManyRow : OpenClaim := { program := "ytjdbppdanckfnaa", sum := "f6c5b7af3688f7fc2680a15a23b3029dfc6c5a038cc87113a18e965c1e9fd97d", func := "elenchus/elenchuslaw2.AtomsMany", spec := "atomsMany", apart := false }
def AtomsManySaid : Prop := atomsManyRow.holds Try.pinned (OpenSpec.ofChange atomsManySpec)

/-- ITS FALSE NEIGHBOUR: 'it returns false'. Refute it at one input. -/
def atomsManyWrong : ChangeSpec := { name := "atomsMany", fn := fun _ => fun
  | [d1, d2] => { results := [.lit (.bool false)], args := [d1, d2] }
  | _ => none }
def AtomsManyWrongFalsely : Prop := atomsManyRow.holds Try.pinned (OpenSpec.ofChange atomsManyWrong)

/-- 'elenchuslaw2.AtomsNil': WHATEVER THE INPUT: true; the input reads as it did. -/
def atomsNilSpec : ChangeSpec := { name := "atomsNil", fn := fun _ => fun
  | [d1, d2] => { results := [.lit (.bool true)], args := [d1, d2] }
  | _ => none }
def atomsNilRow : OpenClaim := { program := "ytjdbppdanckfnaa", sum := "f6c5b7af3688f7fc2680a15a23b3029dfc6c5a038cc87113a18e965c1e9fd97d", func := "elenchus/elenchuslaw2.AtomsNil", spec := "atomsNil", apart := false }
def AtomsNilSaid : Prop := atomsNilRow.holds Try.pinned (OpenSpec.ofChange atomsNilSpec)

/-- ITS FALSE NEIGHBOUR: 'it returns false'. Refute it at one input. -/
def atomsNilWrong : ChangeSpec := { name := "atomsNil", fn := fun _ => fun
  | [d1, d2] => { results := [.lit (.bool false)], args := [d1, d2] }
  | _ => none }
def AtomsNilWrongFalsely : Prop := atomsNilRow.holds Try.pinned (OpenSpec.ofChange atomsNilWrong)

/-- 'elenchuslaw2.AtomsOnce': WHATEVER THE INPUT: true; the input reads as it did. -/
def atomsOnceSpec : ChangeSpec := { name := "atomsOnce", fn := fun _ => fun
  | [d] => { results := [.lit (.bool true)], args := [d] }
  | _ => none }
def atomsOnceRow : OpenClaim := { program := "ytjdbppdanckfnaa", sum := "f6c5b7af3688f7fc2680a15a23b3029dfc6c5a038cc87113a18e965c1e9fd97d", func := "elenchus/elenchuslaw2.AtomsOnce", spec := "atomsOnce", apart := false }
def AtomsOnceSaid : Prop := atomsOnceRow.holds Try.pinned (OpenSpec.ofChange atomsOnceSpec)

/-- ITS FALSE NEIGHBOUR: 'it returns false'. Refute it at one input. -/
def atomsOnceWrong : ChangeSpec := { name := "atomsOnce", fn := fun _ => fun
  | [d] => { results := [.lit (.bool false)], args := [d] }
  | _ => none }
def AtomsOnceWrongFalsely : Prop := atomsOnceRow.holds Try.pinned (OpenSpec.ofChange atomsOnceWrong)

/-- 'elenchuslaw2.AtomsApart': WHATEVER THE INPUT: true; the input reads as it did. -/
def atomsApartSpec : ChangeSpec := { name := "atomsApart", fn := fun _ => fun
  | [d1, d2] => { results := [.lit (.bool true)], args := [d1, d2] }
  | _ => none }
def atomsApartRow : OpenClaim := { program := "ytjdbppdanckfnaa", sum := "f6c5b7af3688f7fc2680a15a23b3029dfc6c5a038cc87113a18e965c1e9fd97d", func := "elenchus/elenchuslaw2.AtomsApart", spec := "atomsApart", apart := false }
def AtomsApartSaid : Prop := atomsApartRow.holds Try.pinned (OpenSpec.ofChange atomsApartSpec)

/-- ITS FALSE NEIGHBOUR: 'it returns false'. Refute it at one input. -/
def atomsApartWrong : ChangeSpec := { name := "atomsApart", fn := fun _ => fun
  | [d1, d2] => { results := [.lit (.bool false)], args := [d1, d2] }
  | _ => none }
def AtomsApartWrongFalsely : Prop := atomsApartRow.holds Try.pinned (OpenSpec.ofChange atomsApartWrong)

/-- 'elenchuslaw2.AtomsRise': WHATEVER THE INPUT: true; the input reads as it did. -/
def atomsRiseSpec : ChangeSpec := { name := "atomsRise", fn := fun _ => fun
  | [d] => { results := [.lit (.bool true)], args := [d] }
  | _ => none }
def atomsRiseRow : OpenClaim := { program := "ytjdbppdanckfnaa", sum := "f6c5b7af3688f7fc2680a15a23b3029dfc6c5a038cc87113a18e965c1e9fd97d", func := "elenchus/elenchuslaw2.AtomsRise", spec := "atomsRise", apart := false }
def AtomsRiseSaid : Prop := atomsRiseRow.holds Try.pinned (OpenSpec.ofChange atomsRiseSpec)

/-- ITS FALSE NEIGHBOUR: 'it returns false'. Refute it at one input. -/
def atomsRiseWrong : ChangeSpec := { name := "atomsRise", fn := fun _ => fun
  | [d] => { results := [.lit (.bool false)], args := [d] }
  | _ => none }
def AtomsRiseWrongFalsely : Prop := atomsRiseRow.holds Try.pinned (OpenSpec.ofChange atomsRiseWrong)

/- THE SECOND FORM. 'bulk': how many values and letters a reading holds, each counted each time it is reached (what is shared counts as often as it is met; a slice's spare places count too). A statement '..UptoSaid' is the law's where the arguments, and the package variables that the reading takes, are together of bulk at most 1048576: NARROWER than '..Said'. Prove '..Said' where nothing that the law and all that it calls make is longer than what came in: it says more and counts as full. Else prove '..UptoSaid'. A law counts once. -/
mutual
def uptoBulk {H : Type} : DataW H → Nat
  | .lit (.string bytes) => bytes.length + 1
  | .lit _ => 1
  | .nil => 1
  | .ptr d => uptoBulk d + 1
  | .slice elems spare => uptoBulkAll elems + uptoBulkAll spare + 1
  | .agg parts => uptoBulkAll parts + 1
  | .iface _ d => uptoBulk d + 1
  | .map entries => uptoBulkEntries entries + 1
  | .held _ => 1
def uptoBulkAll {H : Type} : List (DataW H) → Nat
  | [] => 0
  | d :: r => uptoBulk d + uptoBulkAll r
def uptoBulkEntries {H : Type} : List (Lit × DataW H) → Nat
  | [] => 0
  | x :: r => uptoBulkEntry x + uptoBulkEntries r
def uptoBulkEntry {H : Type} : Lit × DataW H → Nat
  | (.string bytes, d) => bytes.length + uptoBulk d + 1
  | (_, d) => uptoBulk d + 1
 end
def uptoSmall : (H : Type) → List (DataW H) → Bool := fun _ ds => decide (uptoBulkAll ds ≤ 1048576)
def OpenSpec.upto (s : _root_.Go.ChangeSpec) : _root_.Go.OpenSpec := { _root_.Go.OpenSpec.ofChange s with cond := some uptoSmall }

/-- 'elenchuslaw2.AtomsPlay', WHERE WHAT IT READS IS OF BULK AT MOST 1048576: true; the input reads as it did. -/
def atomsPlayUptoRow : OpenClaim := { program := "ytjdbppdanckfnaa", sum := "f6c5b7af3688f7fc2680a15a23b3029dfc6c5a038cc87113a18e965c1e9fd97d", func := "elenchus/elenchuslaw2.AtomsPlay", spec := "atomsPlay", apart := false, narrowed := true }
def AtomsPlayUptoSaid : Prop := atomsPlayUptoRow.holds Try.pinned (OpenSpec.upto atomsPlaySpec)

/-- 'elenchuslaw2.AtomsMany', WHERE WHAT IT READS IS OF BULK AT MOST 1048576: true; the input reads as it did. -/
def atomsManyUptoRow : OpenClaim := { program := "ytjdbppdanckfnaa", sum := "f6c5b7af3688f7fc2680a15a23b3029dfc6c5a038cc87113a18e965c1e9fd97d", func := "elenchus/elenchuslaw2.AtomsMany", spec := "atomsMany", apart := false, narrowed := true }
def AtomsManyUptoSaid : Prop := atomsManyUptoRow.holds Try.pinned (OpenSpec.upto atomsManySpec)

/-- 'elenchuslaw2.AtomsNil', WHERE WHAT IT READS IS OF BULK AT MOST 1048576: true; the input reads as it did. -/
def atomsNilUptoRow : OpenClaim := { program := "ytjdbppdanckfnaa", sum := "f6c5b7af3688f7fc2680a15a23b3029dfc6c5a038cc87113a18e965c1e9fd97d", func := "elenchus/elenchuslaw2.AtomsNil", spec := "atomsNil", apart := false, narrowed := true }
def AtomsNilUptoSaid : Prop := atomsNilUptoRow.holds Try.pinned (OpenSpec.upto atomsNilSpec)

/-- 'elenchuslaw2.AtomsOnce', WHERE WHAT IT READS IS OF BULK AT MOST 1048576: true; the input reads as it did. -/
def atomsOnceUptoRow : OpenClaim := { program := "ytjdbppdanckfnaa", sum := "f6c5b7af3688f7fc2680a15a23b3029dfc6c5a038cc87113a18e965c1e9fd97d", func := "elenchus/elenchuslaw2.AtomsOnce", spec := "atomsOnce", apart := false, narrowed := true }
def AtomsOnceUptoSaid : Prop := atomsOnceUptoRow.holds Try.pinned (OpenSpec.upto atomsOnceSpec)

/-- 'elenchuslaw2.AtomsApart', WHERE WHAT IT READS IS OF BULK AT MOST 1048576: true; the input reads as it did. -/
def atomsApartUptoRow : OpenClaim := { program := "ytjdbppdanckfnaa", sum := "f6c5b7af3688f7fc2680a15a23b3029dfc6c5a038cc87113a18e965c1e9fd97d", func := "elenchus/elenchuslaw2.AtomsApart", spec := "atomsApart", apart := false, narrowed := true }
def AtomsApartUptoSaid : Prop := atomsApartUptoRow.holds Try.pinned (OpenSpec.upto atomsApartSpec)

/-- 'elenchuslaw2.AtomsRise', WHERE WHAT IT READS IS OF BULK AT MOST 1048576: true; the input reads as it did. -/
def atomsRiseUptoRow : OpenClaim := { program := "ytjdbppdanckfnaa", sum := "f6c5b7af3688f7fc2680a15a23b3029dfc6c5a038cc87113a18e965c1e9fd97d", func := "elenchus/elenchuslaw2.AtomsRise", spec := "atomsRise", apart := false, narrowed := true }
def AtomsRiseUptoSaid : Prop := atomsRiseUptoRow.holds Try.pinned (OpenSpec.upto atomsRiseSpec)

end Rows
end Go.Proofs.Ytjdbppdanckfnaa
