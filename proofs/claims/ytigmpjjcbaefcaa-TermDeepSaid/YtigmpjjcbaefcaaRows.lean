/-
  NARROWER THAN 'FOR EVERY INPUT', by the rows' own cells (each row's printed sentence says how): TermLists: loops · TermVariants: loops · TermItems: loops · TermApplies: loops · TermCounts: loops · TermVars: loops · TermSames: loops.
  DERIVED. THE GIVEN ROWS OF THIS SEAT. 8 by the template 'for every input the law returns true; each argument reads behind the call as it read before'; 0 by the template 'total and deterministic' (their statements: YtigmpjjcbaefcaaTotals.lean).
  GIVEN WITH THE SEED: the statements are not yours to turn. If you find one false, say at which input.
  Laid BY PROGRAM, IN A SANDBOX (cutbox-rows.mjs): the forced cells as the released guide's own fill.sh prints them over the translation 0cd233443c5fb289… (all of the seat's roots in one cut). By AI agents, Wed Nov 11 2026. No macro, syntax, notation, axiom, sorry.
-/
import Derived.Test.YtigmpjjcbaefcaaChecked
import GoSem.Claim
import GoSem.ClaimJoined
import GoSem.ClaimMapViews
import Derived.JoinedTies
import Derived.KernelRfl
namespace Go.Proofs.Ytigmpjjcbaefcaa
/- THE CELL 'sum', in the pinned program and in every row, IS THE sha256 OF THE DUMP (.gsa) THAT YtigmpjjcbaefcaaProg.lean LOADS. Nothing in Lean hashes anything: it is a label: what it is worth is what the hold of that sum in a sandbox is worth. -/
noncomputable def Try.pinned : Pinned := { name := "ytigmpjjcbaefcaa", sum := "0cd233443c5fb28985bb9dc18995b83b4839de1e4c11962c09335ad6cd4af6ef", checked := Try.checked }
namespace Rows
def none {H : Type} : Left H := { results := [], args := [] }

/-- 'elenchuslaw3.TermLists': WHATEVER THE INPUT: true; the input reads as it did. -/
def termListsSpec : ChangeSpec := { name := "termLists", fn := fun _ => fun
  | [d1, d2, d3, d4] => { results := [.lit (.bool true)], args := [d1, d2, d3, d4] }
  | _ => none }
def termListsRow : OpenClaim := { program := "ytigmpjjcbaefcaa", sum := "0cd233443c5fb28985bb9dc18995b83b4839de1e4c11962c09335ad6cd4af6ef", func := "elenchus/elenchuslaw3.TermLists", spec := "termLists", unfollowed := true, recurses := true, loops := true, apart := false }
def TermListsSaid : Prop := termListsRow.holds Try.pinned (OpenSpec.ofChange termListsSpec)

/-- ITS FALSE NEIGHBOUR: 'it returns false'. Refute it at one input. -/
def termListsWrong : ChangeSpec := { name := "termLists", fn := fun _ => fun
  | [d1, d2, d3, d4] => { results := [.lit (.bool false)], args := [d1, d2, d3, d4] }
  | _ => none }
def TermListsWrongFalsely : Prop := termListsRow.holds Try.pinned (OpenSpec.ofChange termListsWrong)

/-- 'elenchuslaw3.TermDeep': WHATEVER THE INPUT: true; the input reads as it did. -/
def termDeepSpec : ChangeSpec := { name := "termDeep", fn := fun _ => fun
  | [d1, d2] => { results := [.lit (.bool true)], args := [d1, d2] }
  | _ => none }
def termDeepRow : OpenClaim := { program := "ytigmpjjcbaefcaa", sum := "0cd233443c5fb28985bb9dc18995b83b4839de1e4c11962c09335ad6cd4af6ef", func := "elenchus/elenchuslaw3.TermDeep", spec := "termDeep", unfollowed := true, recurses := true, apart := false }
def TermDeepSaid : Prop := termDeepRow.holds Try.pinned (OpenSpec.ofChange termDeepSpec)

/-- ITS FALSE NEIGHBOUR: 'it returns false'. Refute it at one input. -/
def termDeepWrong : ChangeSpec := { name := "termDeep", fn := fun _ => fun
  | [d1, d2] => { results := [.lit (.bool false)], args := [d1, d2] }
  | _ => none }
def TermDeepWrongFalsely : Prop := termDeepRow.holds Try.pinned (OpenSpec.ofChange termDeepWrong)

/-- 'elenchuslaw3.TermVariants': WHATEVER THE INPUT: true; the input reads as it did. -/
def termVariantsSpec : ChangeSpec := { name := "termVariants", fn := fun _ => fun
  | [d1, d2, d3, d4] => { results := [.lit (.bool true)], args := [d1, d2, d3, d4] }
  | _ => none }
def termVariantsRow : OpenClaim := { program := "ytigmpjjcbaefcaa", sum := "0cd233443c5fb28985bb9dc18995b83b4839de1e4c11962c09335ad6cd4af6ef", func := "elenchus/elenchuslaw3.TermVariants", spec := "termVariants", unfollowed := true, recurses := true, loops := true, apart := false }
def TermVariantsSaid : Prop := termVariantsRow.holds Try.pinned (OpenSpec.ofChange termVariantsSpec)

/-- ITS FALSE NEIGHBOUR: 'it returns false'. Refute it at one input. -/
def termVariantsWrong : ChangeSpec := { name := "termVariants", fn := fun _ => fun
  | [d1, d2, d3, d4] => { results := [.lit (.bool false)], args := [d1, d2, d3, d4] }
  | _ => none }
def TermVariantsWrongFalsely : Prop := termVariantsRow.holds Try.pinned (OpenSpec.ofChange termVariantsWrong)

/-- 'elenchuslaw3.TermItems': WHATEVER THE INPUT: true; the input reads as it did. -/
def termItemsSpec : ChangeSpec := { name := "termItems", fn := fun _ => fun
  | [d1, d2] => { results := [.lit (.bool true)], args := [d1, d2] }
  | _ => none }
def termItemsRow : OpenClaim := { program := "ytigmpjjcbaefcaa", sum := "0cd233443c5fb28985bb9dc18995b83b4839de1e4c11962c09335ad6cd4af6ef", func := "elenchus/elenchuslaw3.TermItems", spec := "termItems", unfollowed := true, recurses := true, loops := true, apart := false }
def TermItemsSaid : Prop := termItemsRow.holds Try.pinned (OpenSpec.ofChange termItemsSpec)

/-- ITS FALSE NEIGHBOUR: 'it returns false'. Refute it at one input. -/
def termItemsWrong : ChangeSpec := { name := "termItems", fn := fun _ => fun
  | [d1, d2] => { results := [.lit (.bool false)], args := [d1, d2] }
  | _ => none }
def TermItemsWrongFalsely : Prop := termItemsRow.holds Try.pinned (OpenSpec.ofChange termItemsWrong)

/-- 'elenchuslaw3.TermApplies': WHATEVER THE INPUT: true; the input reads as it did. -/
def termAppliesSpec : ChangeSpec := { name := "termApplies", fn := fun _ => fun
  | [d1, d2] => { results := [.lit (.bool true)], args := [d1, d2] }
  | _ => none }
def termAppliesRow : OpenClaim := { program := "ytigmpjjcbaefcaa", sum := "0cd233443c5fb28985bb9dc18995b83b4839de1e4c11962c09335ad6cd4af6ef", func := "elenchus/elenchuslaw3.TermApplies", spec := "termApplies", unfollowed := true, recurses := true, loops := true, apart := false }
def TermAppliesSaid : Prop := termAppliesRow.holds Try.pinned (OpenSpec.ofChange termAppliesSpec)

/-- ITS FALSE NEIGHBOUR: 'it returns false'. Refute it at one input. -/
def termAppliesWrong : ChangeSpec := { name := "termApplies", fn := fun _ => fun
  | [d1, d2] => { results := [.lit (.bool false)], args := [d1, d2] }
  | _ => none }
def TermAppliesWrongFalsely : Prop := termAppliesRow.holds Try.pinned (OpenSpec.ofChange termAppliesWrong)

/-- 'elenchuslaw3.TermCounts': WHATEVER THE INPUT: true; the input reads as it did. -/
def termCountsSpec : ChangeSpec := { name := "termCounts", fn := fun _ => fun
  | [d1, d2] => { results := [.lit (.bool true)], args := [d1, d2] }
  | _ => none }
def termCountsRow : OpenClaim := { program := "ytigmpjjcbaefcaa", sum := "0cd233443c5fb28985bb9dc18995b83b4839de1e4c11962c09335ad6cd4af6ef", func := "elenchus/elenchuslaw3.TermCounts", spec := "termCounts", unfollowed := true, recurses := true, loops := true, apart := false }
def TermCountsSaid : Prop := termCountsRow.holds Try.pinned (OpenSpec.ofChange termCountsSpec)

/-- ITS FALSE NEIGHBOUR: 'it returns false'. Refute it at one input. -/
def termCountsWrong : ChangeSpec := { name := "termCounts", fn := fun _ => fun
  | [d1, d2] => { results := [.lit (.bool false)], args := [d1, d2] }
  | _ => none }
def TermCountsWrongFalsely : Prop := termCountsRow.holds Try.pinned (OpenSpec.ofChange termCountsWrong)

/-- 'elenchuslaw3.TermVars': WHATEVER THE INPUT: true; the input reads as it did. -/
def termVarsSpec : ChangeSpec := { name := "termVars", fn := fun _ => fun
  | [d1, d2] => { results := [.lit (.bool true)], args := [d1, d2] }
  | _ => none }
def termVarsRow : OpenClaim := { program := "ytigmpjjcbaefcaa", sum := "0cd233443c5fb28985bb9dc18995b83b4839de1e4c11962c09335ad6cd4af6ef", func := "elenchus/elenchuslaw3.TermVars", spec := "termVars", unfollowed := true, recurses := true, loops := true, apart := false }
def TermVarsSaid : Prop := termVarsRow.holds Try.pinned (OpenSpec.ofChange termVarsSpec)

/-- ITS FALSE NEIGHBOUR: 'it returns false'. Refute it at one input. -/
def termVarsWrong : ChangeSpec := { name := "termVars", fn := fun _ => fun
  | [d1, d2] => { results := [.lit (.bool false)], args := [d1, d2] }
  | _ => none }
def TermVarsWrongFalsely : Prop := termVarsRow.holds Try.pinned (OpenSpec.ofChange termVarsWrong)

/-- 'elenchuslaw3.TermSames': WHATEVER THE INPUT: true; the input reads as it did. -/
def termSamesSpec : ChangeSpec := { name := "termSames", fn := fun _ => fun
  | [d1, d2, d3] => { results := [.lit (.bool true)], args := [d1, d2, d3] }
  | _ => none }
def termSamesRow : OpenClaim := { program := "ytigmpjjcbaefcaa", sum := "0cd233443c5fb28985bb9dc18995b83b4839de1e4c11962c09335ad6cd4af6ef", func := "elenchus/elenchuslaw3.TermSames", spec := "termSames", unfollowed := true, recurses := true, loops := true, apart := false }
def TermSamesSaid : Prop := termSamesRow.holds Try.pinned (OpenSpec.ofChange termSamesSpec)

/-- ITS FALSE NEIGHBOUR: 'it returns false'. Refute it at one input. -/
def termSamesWrong : ChangeSpec := { name := "termSames", fn := fun _ => fun
  | [d1, d2, d3] => { results := [.lit (.bool false)], args := [d1, d2, d3] }
  | _ => none }
def TermSamesWrongFalsely : Prop := termSamesRow.holds Try.pinned (OpenSpec.ofChange termSamesWrong)

/- THE SECOND FORM. 'bulk': how many values and letters a reading holds, each counted each time it is reached (what is shared counts as often as it is met; a slice's spare places count too). A statement '..UptoSaid' is the law's where the arguments, and the package variables that the reading takes, are together of bulk at most 1048576: NARROWER than '..Said'. Prove '..Said' where nothing that the law and all that it calls make is longer than what came in: it says more and counts as full. Else prove '..UptoSaid'. A law counts once. -/
mutual
def uptoBulk {H : Type} : DataW H → Nat
  | .lit (.string bytes) => bytes.length + 1
  | .lit _ => 1
  | .nil => 1
  | .ptr d => uptoBulk d + 1
  | .slice elems spare => uptoBulkAll elems + uptoBulkAll spare + 1
  | .agg parts => uptoBulkAll parts + 1
  | .iface _ d => uptoBulk d + 1
  | .map entries => uptoBulkEntries entries + 1
  | .held _ => 1
def uptoBulkAll {H : Type} : List (DataW H) → Nat
  | [] => 0
  | d :: r => uptoBulk d + uptoBulkAll r
def uptoBulkEntries {H : Type} : List (Lit × DataW H) → Nat
  | [] => 0
  | x :: r => uptoBulkEntry x + uptoBulkEntries r
def uptoBulkEntry {H : Type} : Lit × DataW H → Nat
  | (.string bytes, d) => bytes.length + uptoBulk d + 1
  | (_, d) => uptoBulk d + 1
 end
def uptoSmall : (H : Type) → List (DataW H) → Bool := fun _ ds => decide (uptoBulkAll ds ≤ 1048576)
def OpenSpec.upto (s : _root_.Go.ChangeSpec) : _root_.Go.OpenSpec := { _root_.Go.OpenSpec.ofChange s with cond := some uptoSmall }

/-- 'elenchuslaw3.TermLists', WHERE WHAT IT READS IS OF BULK AT MOST 1048576: true; the input reads as it did. -/
def termListsUptoRow : OpenClaim := { program := "ytigmpjjcbaefcaa", sum := "0cd233443c5fb28985bb9dc18995b83b4839de1e4c11962c09335ad6cd4af6ef", func := "elenchus/elenchuslaw3.TermLists", spec := "termLists", unfollowed := true, recurses := true, loops := true, apart := false, narrowed := true }
def TermListsUptoSaid : Prop := termListsUptoRow.holds Try.pinned (OpenSpec.upto termListsSpec)

/-- 'elenchuslaw3.TermDeep', WHERE WHAT IT READS IS OF BULK AT MOST 1048576: true; the input reads as it did. -/
def termDeepUptoRow : OpenClaim := { program := "ytigmpjjcbaefcaa", sum := "0cd233443c5fb28985bb9dc18995b83b4839de1e4c11962c09335ad6cd4af6ef", func := "elenchus/elenchuslaw3.TermDeep", spec := "termDeep", unfollowed := true, recurses := true, apart := false, narrowed := true }
def TermDeepUptoSaid : Prop := termDeepUptoRow.holds Try.pinned (OpenSpec.upto termDeepSpec)

/-- 'elenchuslaw3.TermVariants', WHERE WHAT IT READS IS OF BULK AT MOST 1048576: true; the input reads as it did. -/
def termVariantsUptoRow : OpenClaim := { program := "ytigmpjjcbaefcaa", sum := "0cd233443c5fb28985bb9dc18995b83b4839de1e4c11962c09335ad6cd4af6ef", func := "elenchus/elenchuslaw3.TermVariants", spec := "termVariants", unfollowed := true, recurses := true, loops := true, apart := false, narrowed := true }
def TermVariantsUptoSaid : Prop := termVariantsUptoRow.holds Try.pinned (OpenSpec.upto termVariantsSpec)

/-- 'elenchuslaw3.TermItems', WHERE WHAT IT READS IS OF BULK AT MOST 1048576: true; the input reads as it did. -/
def termItemsUptoRow : OpenClaim := { program := "ytigmpjjcbaefcaa", sum := "0cd233443c5fb28985bb9dc18995b83b4839de1e4c11962c09335ad6cd4af6ef", func := "elenchus/elenchuslaw3.TermItems", spec := "termItems", unfollowed := true, recurses := true, loops := true, apart := false, narrowed := true }
def TermItemsUptoSaid : Prop := termItemsUptoRow.holds Try.pinned (OpenSpec.upto termItemsSpec)

/-- 'elenchuslaw3.TermApplies', WHERE WHAT IT READS IS OF BULK AT MOST 1048576: true; the input reads as it did. -/
def termAppliesUptoRow : OpenClaim := { program := "ytigmpjjcbaefcaa", sum := "0cd233443c5fb28985bb9dc18995b83b4839de1e4c11962c09335ad6cd4af6ef", func := "elenchus/elenchuslaw3.TermApplies", spec := "termApplies", unfollowed := true, recurses := true, loops := true, apart := false, narrowed := true }
def TermAppliesUptoSaid : Prop := termAppliesUptoRow.holds Try.pinned (OpenSpec.upto termAppliesSpec)

/-- 'elenchuslaw3.TermCounts', WHERE WHAT IT READS IS OF BULK AT MOST 1048576: true; the input reads as it did. -/
def termCountsUptoRow : OpenClaim := { program := "ytigmpjjcbaefcaa", sum := "0cd233443c5fb28985bb9dc18995b83b4839de1e4c11962c09335ad6cd4af6ef", func := "elenchus/elenchuslaw3.TermCounts", spec := "termCounts", unfollowed := true, recurses := true, loops := true, apart := false, narrowed := true }
def TermCountsUptoSaid : Prop := termCountsUptoRow.holds Try.pinned (OpenSpec.upto termCountsSpec)

/-- 'elenchuslaw3.TermVars', WHERE WHAT IT READS IS OF BULK AT MOST 1048576: true; the input reads as it did. -/
def termVarsUptoRow : OpenClaim := { program := "ytigmpjjcbaefcaa", sum := "0cd233443c5fb28985bb9dc18995b83b4839de1e4c11962c09335ad6cd4af6ef", func := "elenchus/elenchuslaw3.TermVars", spec := "termVars", unfollowed := true, recurses := true, loops := true, apart := false, narrowed := true }
def TermVarsUptoSaid : Prop := termVarsUptoRow.holds Try.pinned (OpenSpec.upto termVarsSpec)

/-- 'elenchuslaw3.TermSames', WHERE WHAT IT READS IS OF BULK AT MOST 1048576: true; the input reads as it did. -/
def termSamesUptoRow : OpenClaim := { program := "ytigmpjjcbaefcaa", sum := "0cd233443c5fb28985bb9dc18995b83b4839de1e4c11962c09335ad6cd4af6ef", func := "elenchus/elenchuslaw3.TermSames", spec := "termSames", unfollowed := true, recurses := true, loops := true, apart := false, narrowed := true }
def TermSamesUptoSaid : Prop := termSamesUptoRow.holds Try.pinned (OpenSpec.upto termSamesSpec)

end Rows
end Go.Proofs.Ytigmpjjcbaefcaa
