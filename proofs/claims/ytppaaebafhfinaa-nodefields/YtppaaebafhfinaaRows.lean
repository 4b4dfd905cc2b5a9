/-
  No cell of these rows narrows 'for every input' (looked for: loops, veiled, ifaces, maps, wideKeys, modest, calm, conditions, laid).
  DERIVED. THE GIVEN ROWS OF THIS SEAT. 5 by the template 'for every input the law returns true; each argument reads behind the call as it read before'; 0 by the template 'total and deterministic' (their statements: YtppaaebafhfinaaTotals.lean).
  GIVEN WITH THE SEED: the statements are not yours to turn. If you find one false, say at which input.
  Laid BY PROGRAM, IN A SANDBOX (cutbox-rows.mjs): the forced cells as the released guide's own fill.sh prints them over the translation 31331321a8f0facd… (all of the seat's roots in one cut). By AI agents, Wed Nov 11 2026. No macro, syntax, notation, axiom, sorry.
-/
import Derived.Test.YtppaaebafhfinaaChecked
import GoSem.Claim
import GoSem.ClaimJoined
import GoSem.ClaimMapViews
import Derived.JoinedTies
import Derived.KernelRfl
namespace Go.Proofs.Ytppaaebafhfinaa
/- THE CELL 'sum', in the pinned program and in every row, IS THE sha256 OF THE DUMP (.gsa) THAT YtppaaebafhfinaaProg.lean LOADS. Nothing in Lean hashes anything: it is a label: what it is worth is what the hold of that sum in a sandbox is worth. -/
noncomputable def Try.pinned : Pinned := { name := "ytppaaebafhfinaa", sum := "31331321a8f0facdf4a6a1963a1aefef5d7a885155c014770f5b5d70d904874e", checked := Try.checked }
namespace Rows
def none {H : Type} : Left H := { results := [], args := [] }

/-- 'copselaw6.NodeRuns': WHATEVER THE INPUT: true; the input reads as it did. -/
def nodeRunsSpec : ChangeSpec := { name := "nodeRuns", fn := fun _ => fun
  | [] => { results := [.lit (.bool true)], args := [] }
  | _ => none }
def nodeRunsRow : OpenClaim := { program := "ytppaaebafhfinaa", sum := "31331321a8f0facdf4a6a1963a1aefef5d7a885155c014770f5b5d70d904874e", func := "copse/copselaw6.NodeRuns", spec := "nodeRuns", apart := false }
def NodeRunsSaid : Prop := nodeRunsRow.holds Try.pinned (OpenSpec.ofChange nodeRunsSpec)

/-- ITS FALSE NEIGHBOUR: 'it returns false'. Refute it at one input. -/
def nodeRunsWrong : ChangeSpec := { name := "nodeRuns", fn := fun _ => fun
  | [] => { results := [.lit (.bool false)], args := [] }
  | _ => none }
def NodeRunsWrongFalsely : Prop := nodeRunsRow.holds Try.pinned (OpenSpec.ofChange nodeRunsWrong)

/-- 'copselaw6.NodeTells': WHATEVER THE INPUT: true; the input reads as it did. -/
def nodeTellsSpec : ChangeSpec := { name := "nodeTells", fn := fun _ => fun
  | [d1, d2] => { results := [.lit (.bool true)], args := [d1, d2] }
  | _ => none }
def nodeTellsRow : OpenClaim := { program := "ytppaaebafhfinaa", sum := "31331321a8f0facdf4a6a1963a1aefef5d7a885155c014770f5b5d70d904874e", func := "copse/copselaw6.NodeTells", spec := "nodeTells", apart := false }
def NodeTellsSaid : Prop := nodeTellsRow.holds Try.pinned (OpenSpec.ofChange nodeTellsSpec)

/-- ITS FALSE NEIGHBOUR: 'it returns false'. Refute it at one input. -/
def nodeTellsWrong : ChangeSpec := { name := "nodeTells", fn := fun _ => fun
  | [d1, d2] => { results := [.lit (.bool false)], args := [d1, d2] }
  | _ => none }
def NodeTellsWrongFalsely : Prop := nodeTellsRow.holds Try.pinned (OpenSpec.ofChange nodeTellsWrong)

/-- 'copselaw6.NodeBack': WHATEVER THE INPUT: true; the input reads as it did. -/
def nodeBackSpec : ChangeSpec := { name := "nodeBack", fn := fun _ => fun
  | [d1, d2, d3, d4] => { results := [.lit (.bool true)], args := [d1, d2, d3, d4] }
  | _ => none }
def nodeBackRow : OpenClaim := { program := "ytppaaebafhfinaa", sum := "31331321a8f0facdf4a6a1963a1aefef5d7a885155c014770f5b5d70d904874e", func := "copse/copselaw6.NodeBack", spec := "nodeBack", apart := false }
def NodeBackSaid : Prop := nodeBackRow.holds Try.pinned (OpenSpec.ofChange nodeBackSpec)

/-- ITS FALSE NEIGHBOUR: 'it returns false'. Refute it at one input. -/
def nodeBackWrong : ChangeSpec := { name := "nodeBack", fn := fun _ => fun
  | [d1, d2, d3, d4] => { results := [.lit (.bool false)], args := [d1, d2, d3, d4] }
  | _ => none }
def NodeBackWrongFalsely : Prop := nodeBackRow.holds Try.pinned (OpenSpec.ofChange nodeBackWrong)

/-- 'copselaw6.NodeEdges': WHATEVER THE INPUT: true; the input reads as it did. -/
def nodeEdgesSpec : ChangeSpec := { name := "nodeEdges", fn := fun _ => fun
  | [d1, d2] => { results := [.lit (.bool true)], args := [d1, d2] }
  | _ => none }
def nodeEdgesRow : OpenClaim := { program := "ytppaaebafhfinaa", sum := "31331321a8f0facdf4a6a1963a1aefef5d7a885155c014770f5b5d70d904874e", func := "copse/copselaw6.NodeEdges", spec := "nodeEdges", apart := false }
def NodeEdgesSaid : Prop := nodeEdgesRow.holds Try.pinned (OpenSpec.ofChange nodeEdgesSpec)

/-- ITS FALSE NEIGHBOUR: 'it returns false'. Refute it at one input. -/
def nodeEdgesWrong : ChangeSpec := { name := "nodeEdges", fn := fun _ => fun
  | [d1, d2] => { results := [.lit (.bool false)], args := [d1, d2] }
  | _ => none }
def NodeEdgesWrongFalsely : Prop := nodeEdgesRow.holds Try.pinned (OpenSpec.ofChange nodeEdgesWrong)

/-- 'copselaw6.NodeFields': WHATEVER THE INPUT: true; the input reads as it did. -/
def nodeFieldsSpec : ChangeSpec := { name := "nodeFields", fn := fun _ => fun
  | [d1, d2, d3, d4, d5, d6] => { results := [.lit (.bool true)], args := [d1, d2, d3, d4, d5, d6] }
  | _ => none }
def nodeFieldsRow : OpenClaim := { program := "ytppaaebafhfinaa", sum := "31331321a8f0facdf4a6a1963a1aefef5d7a885155c014770f5b5d70d904874e", func := "copse/copselaw6.NodeFields", spec := "nodeFields", apart := false }
def NodeFieldsSaid : Prop := nodeFieldsRow.holds Try.pinned (OpenSpec.ofChange nodeFieldsSpec)

/-- ITS FALSE NEIGHBOUR: 'it returns false'. Refute it at one input. -/
def nodeFieldsWrong : ChangeSpec := { name := "nodeFields", fn := fun _ => fun
  | [d1, d2, d3, d4, d5, d6] => { results := [.lit (.bool false)], args := [d1, d2, d3, d4, d5, d6] }
  | _ => none }
def NodeFieldsWrongFalsely : Prop := nodeFieldsRow.holds Try.pinned (OpenSpec.ofChange nodeFieldsWrong)

/- THE SECOND FORM. 'bulk': how many values and letters a reading holds, each counted each time it is reached (what is shared counts as often as it is met; a slice's spare places count too). A statement '..UptoSaid' is the law's where the arguments, and the package variables that the reading takes, are together of bulk at most 1048576: NARROWER than '..Said'. Prove '..Said' where nothing that the law and all that it calls make is longer than what came in: it says more and counts as full. Else prove '..UptoSaid'. A law counts once. -/
mutual
def uptoBulk {H : Type} : DataW H → Nat
  | .lit (.string bytes) => bytes.length + 1
  | .lit _ => 1
  | .nil => 1
  | .ptr d => uptoBulk d + 1
  | .slice elems spare => uptoBulkAll elems + uptoBulkAll spare + 1
  | .agg parts => uptoBulkAll parts + 1
  | .iface _ d => uptoBulk d + 1
  | .map entries => uptoBulkEntries entries + 1
  | .held _ => 1
def uptoBulkAll {H : Type} : List (DataW H) → Nat
  | [] => 0
  | d :: r => uptoBulk d + uptoBulkAll r
def uptoBulkEntries {H : Type} : List (Lit × DataW H) → Nat
  | [] => 0
  | x :: r => uptoBulkEntry x + uptoBulkEntries r
def uptoBulkEntry {H : Type} : Lit × DataW H → Nat
  | (.string bytes, d) => bytes.length + uptoBulk d + 1
  | (_, d) => uptoBulk d + 1
 end
def uptoSmall : (H : Type) → List (DataW H) → Bool := fun _ ds => decide (uptoBulkAll ds ≤ 1048576)
def OpenSpec.upto (s : _root_.Go.ChangeSpec) : _root_.Go.OpenSpec := { _root_.Go.OpenSpec.ofChange s with cond := some uptoSmall }

/-- 'copselaw6.NodeRuns', WHERE WHAT IT READS IS OF BULK AT MOST 1048576: true; the input reads as it did. -/
def nodeRunsUptoRow : OpenClaim := { program := "ytppaaebafhfinaa", sum := "31331321a8f0facdf4a6a1963a1aefef5d7a885155c014770f5b5d70d904874e", func := "copse/copselaw6.NodeRuns", spec := "nodeRuns", apart := false, narrowed := true }
def NodeRunsUptoSaid : Prop := nodeRunsUptoRow.holds Try.pinned (OpenSpec.upto nodeRunsSpec)

/-- 'copselaw6.NodeTells', WHERE WHAT IT READS IS OF BULK AT MOST 1048576: true; the input reads as it did. -/
def nodeTellsUptoRow : OpenClaim := { program := "ytppaaebafhfinaa", sum := "31331321a8f0facdf4a6a1963a1aefef5d7a885155c014770f5b5d70d904874e", func := "copse/copselaw6.NodeTells", spec := "nodeTells", apart := false, narrowed := true }
def NodeTellsUptoSaid : Prop := nodeTellsUptoRow.holds Try.pinned (OpenSpec.upto nodeTellsSpec)

/-- 'copselaw6.NodeBack', WHERE WHAT IT READS IS OF BULK AT MOST 1048576: true; the input reads as it did. -/
def nodeBackUptoRow : OpenClaim := { program := "ytppaaebafhfinaa", sum := "31331321a8f0facdf4a6a1963a1aefef5d7a885155c014770f5b5d70d904874e", func := "copse/copselaw6.NodeBack", spec := "nodeBack", apart := false, narrowed := true }
def NodeBackUptoSaid : Prop := nodeBackUptoRow.holds Try.pinned (OpenSpec.upto nodeBackSpec)

/-- 'copselaw6.NodeEdges', WHERE WHAT IT READS IS OF BULK AT MOST 1048576: true; the input reads as it did. -/
def nodeEdgesUptoRow : OpenClaim := { program := "ytppaaebafhfinaa", sum := "31331321a8f0facdf4a6a1963a1aefef5d7a885155c014770f5b5d70d904874e", func := "copse/copselaw6.NodeEdges", spec := "nodeEdges", apart := false, narrowed := true }
def NodeEdgesUptoSaid : Prop := nodeEdgesUptoRow.holds Try.pinned (OpenSpec.upto nodeEdgesSpec)

/-- 'copselaw6.NodeFields', WHERE WHAT IT READS IS OF BULK AT MOST 1048576: true; the input reads as it did. -/
def nodeFieldsUptoRow : OpenClaim := { program := "ytppaaebafhfinaa", sum := "31331321a8f0facdf4a6a1963a1aefef5d7a885155c014770f5b5d70d904874e", func := "copse/copselaw6.NodeFields", spec := "nodeFields", apart := false, narrowed := true }
def NodeFieldsUptoSaid : Prop := nodeFieldsUptoRow.holds Try.pinned (OpenSpec.upto nodeFieldsSpec)

end Rows
end Go.Proofs.Ytppaaebafhfinaa
