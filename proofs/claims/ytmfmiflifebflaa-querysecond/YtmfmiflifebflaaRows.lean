/-
  No cell of these rows narrows 'for every input' (looked for: loops, veiled, ifaces, maps, wideKeys, modest, calm, conditions, laid).
  DERIVED. THE GIVEN ROWS OF THIS SEAT. 5 by the template 'for every input the law returns true; each argument reads behind the call as it read before'; 0 by the template 'total and deterministic' (their statements: YtmfmiflifebflaaTotals.lean).
  GIVEN WITH THE SEED: the statements are not yours to turn. If you find one false, say at which input.
  Laid BY PROGRAM, IN A SANDBOX (cutbox-rows.mjs): the forced cells as the released guide's own fill.sh prints them over the translation 3b4d124cb3333d51… (all of the seat's roots in one cut). By AI agents, Wed Nov 11 2026. No macro, syntax, notation, axiom, sorry.
-/
import Derived.Test.YtmfmiflifebflaaChecked
import GoSem.Claim
import GoSem.ClaimJoined
import GoSem.ClaimMapViews
import Derived.JoinedTies
import Derived.KernelRfl
namespace Go.Proofs.Ytmfmiflifebflaa
/- THE CELL 'sum', in the pinned program and in every row, IS THE sha256 OF THE DUMP (.gsa) THAT YtmfmiflifebflaaProg.lean LOADS. Nothing in Lean hashes anything: it is a label: what it is worth is what the hold of that sum in a sandbox is worth. -/
noncomputable def Try.pinned : Pinned := { name := "ytmfmiflifebflaa", sum := "3b4d124cb3333d51820bfe6171511a9b3e3bee684c4c1998abe72e89a967c941", checked := Try.checked }
namespace Rows
def none {H : Type} : Left H := { results := [], args := [] }

/-- 'copselaw10.QueryRuns': WHATEVER THE INPUT: true; the input reads as it did. -/
def queryRunsSpec : ChangeSpec := { name := "queryRuns", fn := fun _ => fun
  | [] => { results := [.lit (.bool true)], args := [] }
  | _ => none }
def queryRunsRow : OpenClaim := { program := "ytmfmiflifebflaa", sum := "3b4d124cb3333d51820bfe6171511a9b3e3bee684c4c1998abe72e89a967c941", func := "copse/copselaw10.QueryRuns", spec := "queryRuns", apart := false }
def QueryRunsSaid : Prop := queryRunsRow.holds Try.pinned (OpenSpec.ofChange queryRunsSpec)

/-- ITS FALSE NEIGHBOUR: 'it returns false'. Refute it at one input. -/
def queryRunsWrong : ChangeSpec := { name := "queryRuns", fn := fun _ => fun
  | [] => { results := [.lit (.bool false)], args := [] }
  | _ => none }
def QueryRunsWrongFalsely : Prop := queryRunsRow.holds Try.pinned (OpenSpec.ofChange queryRunsWrong)

/-- 'copselaw10.QueryTells': WHATEVER THE INPUT: true; the input reads as it did. -/
def queryTellsSpec : ChangeSpec := { name := "queryTells", fn := fun _ => fun
  | [d1, d2, d3, d4, d5, d6] => { results := [.lit (.bool true)], args := [d1, d2, d3, d4, d5, d6] }
  | _ => none }
def queryTellsRow : OpenClaim := { program := "ytmfmiflifebflaa", sum := "3b4d124cb3333d51820bfe6171511a9b3e3bee684c4c1998abe72e89a967c941", func := "copse/copselaw10.QueryTells", spec := "queryTells", apart := false }
def QueryTellsSaid : Prop := queryTellsRow.holds Try.pinned (OpenSpec.ofChange queryTellsSpec)

/-- ITS FALSE NEIGHBOUR: 'it returns false'. Refute it at one input. -/
def queryTellsWrong : ChangeSpec := { name := "queryTells", fn := fun _ => fun
  | [d1, d2, d3, d4, d5, d6] => { results := [.lit (.bool false)], args := [d1, d2, d3, d4, d5, d6] }
  | _ => none }
def QueryTellsWrongFalsely : Prop := queryTellsRow.holds Try.pinned (OpenSpec.ofChange queryTellsWrong)

/-- 'copselaw10.QueryKinds': WHATEVER THE INPUT: true; the input reads as it did. -/
def queryKindsSpec : ChangeSpec := { name := "queryKinds", fn := fun _ => fun
  | [d1, d2, d3, d4, d5] => { results := [.lit (.bool true)], args := [d1, d2, d3, d4, d5] }
  | _ => none }
def queryKindsRow : OpenClaim := { program := "ytmfmiflifebflaa", sum := "3b4d124cb3333d51820bfe6171511a9b3e3bee684c4c1998abe72e89a967c941", func := "copse/copselaw10.QueryKinds", spec := "queryKinds", apart := false }
def QueryKindsSaid : Prop := queryKindsRow.holds Try.pinned (OpenSpec.ofChange queryKindsSpec)

/-- ITS FALSE NEIGHBOUR: 'it returns false'. Refute it at one input. -/
def queryKindsWrong : ChangeSpec := { name := "queryKinds", fn := fun _ => fun
  | [d1, d2, d3, d4, d5] => { results := [.lit (.bool false)], args := [d1, d2, d3, d4, d5] }
  | _ => none }
def QueryKindsWrongFalsely : Prop := queryKindsRow.holds Try.pinned (OpenSpec.ofChange queryKindsWrong)

/-- 'copselaw10.QueryEdges': WHATEVER THE INPUT: true; the input reads as it did. -/
def queryEdgesSpec : ChangeSpec := { name := "queryEdges", fn := fun _ => fun
  | [d1, d2, d3, d4] => { results := [.lit (.bool true)], args := [d1, d2, d3, d4] }
  | _ => none }
def queryEdgesRow : OpenClaim := { program := "ytmfmiflifebflaa", sum := "3b4d124cb3333d51820bfe6171511a9b3e3bee684c4c1998abe72e89a967c941", func := "copse/copselaw10.QueryEdges", spec := "queryEdges", apart := false }
def QueryEdgesSaid : Prop := queryEdgesRow.holds Try.pinned (OpenSpec.ofChange queryEdgesSpec)

/-- ITS FALSE NEIGHBOUR: 'it returns false'. Refute it at one input. -/
def queryEdgesWrong : ChangeSpec := { name := "queryEdges", fn := fun _ => fun
  | [d1, d2, d3, d4] => { results := [.lit (.bool false)], args := [d1, d2, d3, d4] }
  | _ => none }
def QueryEdgesWrongFalsely : Prop := queryEdgesRow.holds Try.pinned (OpenSpec.ofChange queryEdgesWrong)

/-- 'copselaw10.QuerySecond': WHATEVER THE INPUT: true; the input reads as it did. -/
def querySecondSpec : ChangeSpec := { name := "querySecond", fn := fun _ => fun
  | [d1, d2, d3, d4] => { results := [.lit (.bool true)], args := [d1, d2, d3, d4] }
  | _ => none }
def querySecondRow : OpenClaim := { program := "ytmfmiflifebflaa", sum := "3b4d124cb3333d51820bfe6171511a9b3e3bee684c4c1998abe72e89a967c941", func := "copse/copselaw10.QuerySecond", spec := "querySecond", apart := false }
def QuerySecondSaid : Prop := querySecondRow.holds Try.pinned (OpenSpec.ofChange querySecondSpec)

/-- ITS FALSE NEIGHBOUR: 'it returns false'. Refute it at one input. -/
def querySecondWrong : ChangeSpec := { name := "querySecond", fn := fun _ => fun
  | [d1, d2, d3, d4] => { results := [.lit (.bool false)], args := [d1, d2, d3, d4] }
  | _ => none }
def QuerySecondWrongFalsely : Prop := querySecondRow.holds Try.pinned (OpenSpec.ofChange querySecondWrong)

/- THE SECOND FORM. 'bulk': how many values and letters a reading holds, each counted each time it is reached (what is shared counts as often as it is met; a slice's spare places count too). A statement '..UptoSaid' is the law's where the arguments, and the package variables that the reading takes, are together of bulk at most 1048576: NARROWER than '..Said'. Prove '..Said' where nothing that the law and all that it calls make is longer than what came in: it says more and counts as full. Else prove '..UptoSaid'. A law counts once. -/
mutual
def uptoBulk {H : Type} : DataW H → Nat
  | .lit (.string bytes) => bytes.length + 1
  | .lit _ => 1
  | .nil => 1
  | .ptr d => uptoBulk d + 1
  | .slice elems spare => uptoBulkAll elems + uptoBulkAll spare + 1
  | .agg parts => uptoBulkAll parts + 1
  | .iface _ d => uptoBulk d + 1
  | .map entries => uptoBulkEntries entries + 1
  | .held _ => 1
def uptoBulkAll {H : Type} : List (DataW H) → Nat
  | [] => 0
  | d :: r => uptoBulk d + uptoBulkAll r
def uptoBulkEntries {H : Type} : List (Lit × DataW H) → Nat
  | [] => 0
  | x :: r => uptoBulkEntry x + uptoBulkEntries r
def uptoBulkEntry {H : Type} : Lit × DataW H → Nat
  | (.string bytes, d) => bytes.length + uptoBulk d + 1
  | (_, d) => uptoBulk d + 1
 end
def uptoSmall : (H : Type) → List (DataW H) → Bool := fun _ ds => decide (uptoBulkAll ds ≤ 1048576)
def OpenSpec.upto (s : _root_.Go.ChangeSpec) : _root_.Go.OpenSpec := { _root_.Go.OpenSpec.ofChange s with cond := some uptoSmall }

/-- 'copselaw10.QueryRuns', WHERE WHAT IT READS IS OF BULK AT MOST 1048576: true; the input reads as it did. -/
def queryRunsUptoRow : OpenClaim := { program := "ytmfmiflifebflaa", sum := "3b4d124cb3333d51820bfe6171511a9b3e3bee684c4c1998abe72e89a967c941", func := "copse/copselaw10.QueryRuns", spec := "queryRuns", apart := false, narrowed := true }
def QueryRunsUptoSaid : Prop := queryRunsUptoRow.holds Try.pinned (OpenSpec.upto queryRunsSpec)

/-- 'copselaw10.QueryTells', WHERE WHAT IT READS IS OF BULK AT MOST 1048576: true; the input reads as it did. -/
def queryTellsUptoRow : OpenClaim := { program := "ytmfmiflifebflaa", sum := "3b4d124cb3333d51820bfe6171511a9b3e3bee684c4c1998abe72e89a967c941", func := "copse/copselaw10.QueryTells", spec := "queryTells", apart := false, narrowed := true }
def QueryTellsUptoSaid : Prop := queryTellsUptoRow.holds Try.pinned (OpenSpec.upto queryTellsSpec)

/-- 'copselaw10.QueryKinds', WHERE WHAT IT READS IS OF BULK AT MOST 1048576: true; the input reads as it did. -/
def queryKindsUptoRow : OpenClaim := { program := "ytmfmiflifebflaa", sum := "3b4d124cb3333d51820bfe6171511a9b3e3bee684c4c1998abe72e89a967c941", func := "copse/copselaw10.QueryKinds", spec := "queryKinds", apart := false, narrowed := true }
def QueryKindsUptoSaid : Prop := queryKindsUptoRow.holds Try.pinned (OpenSpec.upto queryKindsSpec)

/-- 'copselaw10.QueryEdges', WHERE WHAT IT READS IS OF BULK AT MOST 1048576: true; the input reads as it did. -/
def queryEdgesUptoRow : OpenClaim := { program := "ytmfmiflifebflaa", sum := "3b4d124cb3333d51820bfe6171511a9b3e3bee684c4c1998abe72e89a967c941", func := "copse/copselaw10.QueryEdges", spec := "queryEdges", apart := false, narrowed := true }
def QueryEdgesUptoSaid : Prop := queryEdgesUptoRow.holds Try.pinned (OpenSpec.upto queryEdgesSpec)

/-- 'copselaw10.QuerySecond', WHERE WHAT IT READS IS OF BULK AT MOST 1048576: true; the input reads as it did. -/
def querySecondUptoRow : OpenClaim := { program := "ytmfmiflifebflaa", sum := "3b4d124cb3333d51820bfe6171511a9b3e3bee684c4c1998abe72e89a967c941", func := "copse/copselaw10.QuerySecond", spec := "querySecond", apart := false, narrowed := true }
def QuerySecondUptoSaid : Prop := querySecondUptoRow.holds Try.pinned (OpenSpec.upto querySecondSpec)

end Rows
end Go.Proofs.Ytmfmiflifebflaa
