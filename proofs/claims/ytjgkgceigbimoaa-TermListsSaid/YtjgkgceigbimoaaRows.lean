/-
  NARROWER THAN 'FOR EVERY INPUT', by the rows' own cells (each row's printed sentence says how): TermLists: loops · TermItems: loops · TermApplies: loops.
  DERIVED. THE GIVEN ROWS OF THIS SEAT. 3 by the template 'for every input the law returns true; each argument reads behind the call as it read before'; 0 by the template 'total and deterministic' (their statements: YtjgkgceigbimoaaTotals.lean).
  GIVEN WITH THE SEED: the statements are not yours to turn. If you find one false, say at which input.
  Laid BY PROGRAM, IN A SANDBOX (cutbox-rows.mjs): the forced cells as the released guide's own fill.sh prints them over the translation fe0679d0a815747a… (all of the seat's roots in one cut). By AI agents, Wed Nov 11 2026. No macro, syntax, notation, axiom, sorry.
-/
import Derived.Test.YtjgkgceigbimoaaChecked
import GoSem.Claim
import GoSem.ClaimJoined
import GoSem.ClaimMapViews
import Derived.JoinedTies
import Derived.KernelRfl
namespace Go.Proofs.Ytjgkgceigbimoaa
/- THE CELL 'sum', in the pinned program and in every row, IS THE sha256 OF THE DUMP (.gsa) THAT YtjgkgceigbimoaaProg.lean LOADS. Nothing in Lean hashes anything: it is a label: what it is worth is what the hold of that sum in a sandbox is worth. -/
noncomputable def Try.pinned : Pinned := { name := "ytjgkgceigbimoaa", sum := "fe0679d0a815747a09ab1f488dd86e4290f5d6ea49c5326a88f423eb278604a2", checked := Try.checked }
namespace Rows
def none {H : Type} : Left H := { results := [], args := [] }

/-- 'elenchuslaw3.TermLists': WHATEVER THE INPUT: true; the input reads as it did. -/
def termListsSpec : ChangeSpec := { name := "termLists", fn := fun _ => fun
  | [d1, d2, d3, d4] => { results := [.lit (.bool true)], args := [d1, d2, d3, d4] }
  | _ => none }
def termListsRow : OpenClaim := { program := "ytjgkgceigbimoaa", sum := "fe0679d0a815747a09ab1f488dd86e4290f5d6ea49c5326a88f423eb278604a2", func := "elenchus/elenchuslaw3.TermLists", spec := "termLists", unfollowed := true, recurses := true, loops := true, apart := false }
def TermListsSaid : Prop := termListsRow.holds Try.pinned (OpenSpec.ofChange termListsSpec)

/-- ITS FALSE NEIGHBOUR: 'it returns false'. Refute it at one input. -/
def termListsWrong : ChangeSpec := { name := "termLists", fn := fun _ => fun
  | [d1, d2, d3, d4] => { results := [.lit (.bool false)], args := [d1, d2, d3, d4] }
  | _ => none }
def TermListsWrongFalsely : Prop := termListsRow.holds Try.pinned (OpenSpec.ofChange termListsWrong)

/-- 'elenchuslaw3.TermItems': WHATEVER THE INPUT: true; the input reads as it did. -/
def termItemsSpec : ChangeSpec := { name := "termItems", fn := fun _ => fun
  | [d1, d2] => { results := [.lit (.bool true)], args := [d1, d2] }
  | _ => none }
def termItemsRow : OpenClaim := { program := "ytjgkgceigbimoaa", sum := "fe0679d0a815747a09ab1f488dd86e4290f5d6ea49c5326a88f423eb278604a2", func := "elenchus/elenchuslaw3.TermItems", spec := "termItems", unfollowed := true, recurses := true, loops := true, apart := false }
def TermItemsSaid : Prop := termItemsRow.holds Try.pinned (OpenSpec.ofChange termItemsSpec)

/-- ITS FALSE NEIGHBOUR: 'it returns false'. Refute it at one input. -/
def termItemsWrong : ChangeSpec := { name := "termItems", fn := fun _ => fun
  | [d1, d2] => { results := [.lit (.bool false)], args := [d1, d2] }
  | _ => none }
def TermItemsWrongFalsely : Prop := termItemsRow.holds Try.pinned (OpenSpec.ofChange termItemsWrong)

/-- 'elenchuslaw3.TermApplies': WHATEVER THE INPUT: true; the input reads as it did. -/
def termAppliesSpec : ChangeSpec := { name := "termApplies", fn := fun _ => fun
  | [d1, d2] => { results := [.lit (.bool true)], args := [d1, d2] }
  | _ => none }
def termAppliesRow : OpenClaim := { program := "ytjgkgceigbimoaa", sum := "fe0679d0a815747a09ab1f488dd86e4290f5d6ea49c5326a88f423eb278604a2", func := "elenchus/elenchuslaw3.TermApplies", spec := "termApplies", unfollowed := true, recurses := true, loops := true, apart := false }
def TermAppliesSaid : Prop := termAppliesRow.holds Try.pinned (OpenSpec.ofChange termAppliesSpec)

/-- ITS FALSE NEIGHBOUR: 'it returns false'. Refute it at one input. -/
def termAppliesWrong : ChangeSpec := { name := "termApplies", fn := fun _ => fun
  | [d1, d2] => { results := [.lit (.bool false)], args := [d1, d2] }
  | _ => none }
def TermAppliesWrongFalsely : Prop := termAppliesRow.holds Try.pinned (OpenSpec.ofChange termAppliesWrong)

/- THE SECOND FORM. 'bulk': how many values and letters a reading holds, each counted each time it is reached (what is shared counts as often as it is met; a slice's spare places count too). A statement '..UptoSaid' is the law's where the arguments, and the package variables that the reading takes, are together of bulk at most 1048576: NARROWER than '..Said'. Prove '..Said' where nothing that the law and all that it calls make is longer than what came in: it says more and counts as full. Else prove '..UptoSaid'. A law counts once. -/
mutual
def uptoBulk {H : Type} : DataW H → Nat
  | .lit (.string bytes) => bytes.length + 1
  | .lit _ => 1
  | .nil => 1
  | .ptr d => uptoBulk d + 1
  | .slice elems spare => uptoBulkAll elems + uptoBulkAll spare + 1
  | .agg parts => uptoBulkAll parts + 1
  | .iface _ d => uptoBulk d + 1
  | .map entries => uptoBulkEntries entries + 1
  | .held _ => 1
def uptoBulkAll {H : Type} : List (DataW H) → Nat
  | [] => 0
  | d :: r => uptoBulk d + uptoBulkAll r
def uptoBulkEntries {H : Type} : List (Lit × DataW H) → Nat
  | [] => 0
  | x :: r => uptoBulkEntry x + uptoBulkEntries r
def uptoBulkEntry {H : Type} : Lit × DataW H → Nat
  | (.string bytes, d) => bytes.length + uptoBulk d + 1
  | (_, d) => uptoBulk d + 1
 end
def uptoSmall : (H : Type) → List (DataW H) → Bool := fun _ ds => decide (uptoBulkAll ds ≤ 1048576)
def OpenSpec.upto (s : _root_.Go.ChangeSpec) : _root_.Go.OpenSpec := { _root_.Go.OpenSpec.ofChange s with cond := some uptoSmall }

/-- 'elenchuslaw3.TermLists', WHERE WHAT IT READS IS OF BULK AT MOST 1048576: true; the input reads as it did. -/
def termListsUptoRow : OpenClaim := { program := "ytjgkgceigbimoaa", sum := "fe0679d0a815747a09ab1f488dd86e4290f5d6ea49c5326a88f423eb278604a2", func := "elenchus/elenchuslaw3.TermLists", spec := "termLists", unfollowed := true, recurses := true, loops := true, apart := false, narrowed := true }
def TermListsUptoSaid : Prop := termListsUptoRow.holds Try.pinned (OpenSpec.upto termListsSpec)

/-- 'elenchuslaw3.TermItems', WHERE WHAT IT READS IS OF BULK AT MOST 1048576: true; the input reads as it did. -/
def termItemsUptoRow : OpenClaim := { program := "ytjgkgceigbimoaa", sum := "fe0679d0a815747a09ab1f488dd86e4290f5d6ea49c5326a88f423eb278604a2", func := "elenchus/elenchuslaw3.TermItems", spec := "termItems", unfollowed := true, recurses := true, loops := true, apart := false, narrowed := true }
def TermItemsUptoSaid : Prop := termItemsUptoRow.holds Try.pinned (OpenSpec.upto termItemsSpec)

/-- 'elenchuslaw3.TermApplies', WHERE WHAT IT READS IS OF BULK AT MOST 1048576: true; the input reads as it did. -/
def termAppliesUptoRow : OpenClaim := { program := "ytjgkgceigbimoaa", sum := "fe0679d0a815747a09ab1f488dd86e4290f5d6ea49c5326a88f423eb278604a2", func := "elenchus/elenchuslaw3.TermApplies", spec := "termApplies", unfollowed := true, recurses := true, loops := true, apart := false, narrowed := true }
def TermAppliesUptoSaid : Prop := termAppliesUptoRow.holds Try.pinned (OpenSpec.upto termAppliesSpec)

end Rows
end Go.Proofs.Ytjgkgceigbimoaa
