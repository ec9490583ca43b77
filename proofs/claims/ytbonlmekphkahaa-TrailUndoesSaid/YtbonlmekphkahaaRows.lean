/-
  No cell of these rows narrows 'for every input' (looked for: loops, veiled, ifaces, maps, wideKeys, modest, calm, conditions, laid).
  DERIVED. THE GIVEN ROWS OF THIS SEAT. 5 by the template 'for every input the law returns true; each argument reads behind the call as it read before'; 0 by the template 'total and deterministic' (their statements: YtbonlmekphkahaaTotals.lean).
  GIVEN WITH THE SEED: the statements are not yours to turn. If you find one false, say at which input.
  Laid BY PROGRAM, IN A SANDBOX (cutbox-rows.mjs): the forced cells as the released guide's own fill.sh prints them over the translation b07d8df7830c9b2a… (all of the seat's roots in one cut). By AI agents, Wed Nov 11 2026. No macro, syntax, notation, axiom, sorry.
-/
import Derived.Test.YtbonlmekphkahaaChecked
import GoSem.Claim
import GoSem.ClaimJoined
import GoSem.ClaimMapViews
import Derived.JoinedTies
import Derived.KernelRfl
namespace Go.Proofs.Ytbonlmekphkahaa
/- THE CELL 'sum', in the pinned program and in every row, IS THE sha256 OF THE DUMP (.gsa) THAT YtbonlmekphkahaaProg.lean LOADS. Nothing in Lean hashes anything: it is a label: what it is worth is what the hold of that sum in a sandbox is worth. -/
noncomputable def Try.pinned : Pinned := { name := "ytbonlmekphkahaa", sum := "b07d8df7830c9b2a6e326212f02da292bf9f16c0a235fa41631261f2cf421ef1", checked := Try.checked }
namespace Rows
def none {H : Type} : Left H := { results := [], args := [] }

/-- 'elenchuslaw6.TrailPlays': WHATEVER THE INPUT: true; the input reads as it did. -/
def trailPlaysSpec : ChangeSpec := { name := "trailPlays", fn := fun _ => fun
  | [d] => { results := [.lit (.bool true)], args := [d] }
  | _ => none }
def trailPlaysRow : OpenClaim := { program := "ytbonlmekphkahaa", sum := "b07d8df7830c9b2a6e326212f02da292bf9f16c0a235fa41631261f2cf421ef1", func := "elenchus/elenchuslaw6.TrailPlays", spec := "trailPlays", apart := false }
def TrailPlaysSaid : Prop := trailPlaysRow.holds Try.pinned (OpenSpec.ofChange trailPlaysSpec)

/-- ITS FALSE NEIGHBOUR: 'it returns false'. Refute it at one input. -/
def trailPlaysWrong : ChangeSpec := { name := "trailPlays", fn := fun _ => fun
  | [d] => { results := [.lit (.bool false)], args := [d] }
  | _ => none }
def TrailPlaysWrongFalsely : Prop := trailPlaysRow.holds Try.pinned (OpenSpec.ofChange trailPlaysWrong)

/-- 'elenchuslaw6.TrailNil': WHATEVER THE INPUT: true; the input reads as it did. -/
def trailNilSpec : ChangeSpec := { name := "trailNil", fn := fun _ => fun
  | [d1, d2] => { results := [.lit (.bool true)], args := [d1, d2] }
  | _ => none }
def trailNilRow : OpenClaim := { program := "ytbonlmekphkahaa", sum := "b07d8df7830c9b2a6e326212f02da292bf9f16c0a235fa41631261f2cf421ef1", func := "elenchus/elenchuslaw6.TrailNil", spec := "trailNil", apart := false }
def TrailNilSaid : Prop := trailNilRow.holds Try.pinned (OpenSpec.ofChange trailNilSpec)

/-- ITS FALSE NEIGHBOUR: 'it returns false'. Refute it at one input. -/
def trailNilWrong : ChangeSpec := { name := "trailNil", fn := fun _ => fun
  | [d1, d2] => { results := [.lit (.bool false)], args := [d1, d2] }
  | _ => none }
def TrailNilWrongFalsely : Prop := trailNilRow.holds Try.pinned (OpenSpec.ofChange trailNilWrong)

/-- 'elenchuslaw6.TrailUndoes': WHATEVER THE INPUT: true; the input reads as it did. -/
def trailUndoesSpec : ChangeSpec := { name := "trailUndoes", fn := fun _ => fun
  | [d1, d2] => { results := [.lit (.bool true)], args := [d1, d2] }
  | _ => none }
def trailUndoesRow : OpenClaim := { program := "ytbonlmekphkahaa", sum := "b07d8df7830c9b2a6e326212f02da292bf9f16c0a235fa41631261f2cf421ef1", func := "elenchus/elenchuslaw6.TrailUndoes", spec := "trailUndoes", unfollowed := true, recurses := true, apart := false }
def TrailUndoesSaid : Prop := trailUndoesRow.holds Try.pinned (OpenSpec.ofChange trailUndoesSpec)

/-- ITS FALSE NEIGHBOUR: 'it returns false'. Refute it at one input. -/
def trailUndoesWrong : ChangeSpec := { name := "trailUndoes", fn := fun _ => fun
  | [d1, d2] => { results := [.lit (.bool false)], args := [d1, d2] }
  | _ => none }
def TrailUndoesWrongFalsely : Prop := trailUndoesRow.holds Try.pinned (OpenSpec.ofChange trailUndoesWrong)

/-- 'elenchuslaw6.TrailDrops': WHATEVER THE INPUT: true; the input reads as it did. -/
def trailDropsSpec : ChangeSpec := { name := "trailDrops", fn := fun _ => fun
  | [d1, d2, d3] => { results := [.lit (.bool true)], args := [d1, d2, d3] }
  | _ => none }
def trailDropsRow : OpenClaim := { program := "ytbonlmekphkahaa", sum := "b07d8df7830c9b2a6e326212f02da292bf9f16c0a235fa41631261f2cf421ef1", func := "elenchus/elenchuslaw6.TrailDrops", spec := "trailDrops", unfollowed := true, recurses := true, apart := false }
def TrailDropsSaid : Prop := trailDropsRow.holds Try.pinned (OpenSpec.ofChange trailDropsSpec)

/-- ITS FALSE NEIGHBOUR: 'it returns false'. Refute it at one input. -/
def trailDropsWrong : ChangeSpec := { name := "trailDrops", fn := fun _ => fun
  | [d1, d2, d3] => { results := [.lit (.bool false)], args := [d1, d2, d3] }
  | _ => none }
def TrailDropsWrongFalsely : Prop := trailDropsRow.holds Try.pinned (OpenSpec.ofChange trailDropsWrong)

/-- 'elenchuslaw6.TrailOnce': WHATEVER THE INPUT: true; the input reads as it did. -/
def trailOnceSpec : ChangeSpec := { name := "trailOnce", fn := fun _ => fun
  | [d1, d2, d3] => { results := [.lit (.bool true)], args := [d1, d2, d3] }
  | _ => none }
def trailOnceRow : OpenClaim := { program := "ytbonlmekphkahaa", sum := "b07d8df7830c9b2a6e326212f02da292bf9f16c0a235fa41631261f2cf421ef1", func := "elenchus/elenchuslaw6.TrailOnce", spec := "trailOnce", apart := false }
def TrailOnceSaid : Prop := trailOnceRow.holds Try.pinned (OpenSpec.ofChange trailOnceSpec)

/-- ITS FALSE NEIGHBOUR: 'it returns false'. Refute it at one input. -/
def trailOnceWrong : ChangeSpec := { name := "trailOnce", fn := fun _ => fun
  | [d1, d2, d3] => { results := [.lit (.bool false)], args := [d1, d2, d3] }
  | _ => none }
def TrailOnceWrongFalsely : Prop := trailOnceRow.holds Try.pinned (OpenSpec.ofChange trailOnceWrong)

/- THE SECOND FORM. 'bulk': how many values and letters a reading holds, each counted each time it is reached (what is shared counts as often as it is met; a slice's spare places count too). A statement '..UptoSaid' is the law's where the arguments, and the package variables that the reading takes, are together of bulk at most 1048576: NARROWER than '..Said'. Prove '..Said' where nothing that the law and all that it calls make is longer than what came in: it says more and counts as full. Else prove '..UptoSaid'. A law counts once. -/
mutual
def uptoBulk {H : Type} : DataW H → Nat
  | .lit (.string bytes) => bytes.length + 1
  | .lit _ => 1
  | .nil => 1
  | .ptr d => uptoBulk d + 1
  | .slice elems spare => uptoBulkAll elems + uptoBulkAll spare + 1
  | .agg parts => uptoBulkAll parts + 1
  | .iface _ d => uptoBulk d + 1
  | .map entries => uptoBulkEntries entries + 1
  | .held _ => 1
def uptoBulkAll {H : Type} : List (DataW H) → Nat
  | [] => 0
  | d :: r => uptoBulk d + uptoBulkAll r
def uptoBulkEntries {H : Type} : List (Lit × DataW H) → Nat
  | [] => 0
  | x :: r => uptoBulkEntry x + uptoBulkEntries r
def uptoBulkEntry {H : Type} : Lit × DataW H → Nat
  | (.string bytes, d) => bytes.length + uptoBulk d + 1
  | (_, d) => uptoBulk d + 1
 end
def uptoSmall : (H : Type) → List (DataW H) → Bool := fun _ ds => decide (uptoBulkAll ds ≤ 1048576)
def OpenSpec.upto (s : _root_.Go.ChangeSpec) : _root_.Go.OpenSpec := { _root_.Go.OpenSpec.ofChange s with cond := some uptoSmall }

/-- 'elenchuslaw6.TrailPlays', WHERE WHAT IT READS IS OF BULK AT MOST 1048576: true; the input reads as it did. -/
def trailPlaysUptoRow : OpenClaim := { program := "ytbonlmekphkahaa", sum := "b07d8df7830c9b2a6e326212f02da292bf9f16c0a235fa41631261f2cf421ef1", func := "elenchus/elenchuslaw6.TrailPlays", spec := "trailPlays", apart := false, narrowed := true }
def TrailPlaysUptoSaid : Prop := trailPlaysUptoRow.holds Try.pinned (OpenSpec.upto trailPlaysSpec)

/-- 'elenchuslaw6.TrailNil', WHERE WHAT IT READS IS OF BULK AT MOST 1048576: true; the input reads as it did. -/
def trailNilUptoRow : OpenClaim := { program := "ytbonlmekphkahaa", sum := "b07d8df7830c9b2a6e326212f02da292bf9f16c0a235fa41631261f2cf421ef1", func := "elenchus/elenchuslaw6.TrailNil", spec := "trailNil", apart := false, narrowed := true }
def TrailNilUptoSaid : Prop := trailNilUptoRow.holds Try.pinned (OpenSpec.upto trailNilSpec)

/-- 'elenchuslaw6.TrailUndoes', WHERE WHAT IT READS IS OF BULK AT MOST 1048576: true; the input reads as it did. -/
def trailUndoesUptoRow : OpenClaim := { program := "ytbonlmekphkahaa", sum := "b07d8df7830c9b2a6e326212f02da292bf9f16c0a235fa41631261f2cf421ef1", func := "elenchus/elenchuslaw6.TrailUndoes", spec := "trailUndoes", unfollowed := true, recurses := true, apart := false, narrowed := true }
def TrailUndoesUptoSaid : Prop := trailUndoesUptoRow.holds Try.pinned (OpenSpec.upto trailUndoesSpec)

/-- 'elenchuslaw6.TrailDrops', WHERE WHAT IT READS IS OF BULK AT MOST 1048576: true; the input reads as it did. -/
def trailDropsUptoRow : OpenClaim := { program := "ytbonlmekphkahaa", sum := "b07d8df7830c9b2a6e326212f02da292bf9f16c0a235fa41631261f2cf421ef1", func := "elenchus/elenchuslaw6.TrailDrops", spec := "trailDrops", unfollowed := true, recurses := true, apart := false, narrowed := true }
def TrailDropsUptoSaid : Prop := trailDropsUptoRow.holds Try.pinned (OpenSpec.upto trailDropsSpec)

/-- 'elenchuslaw6.TrailOnce', WHERE WHAT IT READS IS OF BULK AT MOST 1048576: true; the input reads as it did. -/
def trailOnceUptoRow : OpenClaim := { program := "ytbonlmekphkahaa", sum := "b07d8df7830c9b2a6e326212f02da292bf9f16c0a235fa41631261f2cf421ef1", func := "elenchus/elenchuslaw6.TrailOnce", spec := "trailOnce", apart := false, narrowed := true }
def TrailOnceUptoSaid : Prop := trailOnceUptoRow.holds Try.pinned (OpenSpec.upto trailOnceSpec)

end Rows
end Go.Proofs.Ytbonlmekphkahaa
