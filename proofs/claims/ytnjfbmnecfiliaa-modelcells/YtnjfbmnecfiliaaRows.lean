/-
  No cell of these rows narrows 'for every input' (looked for: loops, veiled, ifaces, maps, wideKeys, modest, calm, conditions, laid).
  DERIVED. THE GIVEN ROWS OF THIS SEAT. 6 by the template 'for every input the law returns true; each argument reads behind the call as it read before'; 0 by the template 'total and deterministic' (their statements: YtnjfbmnecfiliaaTotals.lean).
  GIVEN WITH THE SEED: the statements are not yours to turn. If you find one false, say at which input.
  Laid BY PROGRAM, IN A SANDBOX (cutbox-rows.mjs): the forced cells as the released guide's own fill.sh prints them over the translation 8fc1fd63834529b3… (all of the seat's roots in one cut). By AI agents, Wed Nov 11 2026. No macro, syntax, notation, axiom, sorry.
-/
import Derived.Test.YtnjfbmnecfiliaaChecked
import GoSem.Claim
import GoSem.ClaimJoined
import GoSem.ClaimMapViews
import Derived.JoinedTies
import Derived.KernelRfl
namespace Go.Proofs.Ytnjfbmnecfiliaa
/- THE CELL 'sum', in the pinned program and in every row, IS THE sha256 OF THE DUMP (.gsa) THAT YtnjfbmnecfiliaaProg.lean LOADS. Nothing in Lean hashes anything: it is a label: what it is worth is what the hold of that sum in a sandbox is worth. -/
noncomputable def Try.pinned : Pinned := { name := "ytnjfbmnecfiliaa", sum := "8fc1fd63834529b37ca12288dbec057db31b601cb8c600c8e7788c3eb2fdc4b0", checked := Try.checked }
namespace Rows
def none {H : Type} : Left H := { results := [], args := [] }

/-- 'copselaw8.ModelRuns': WHATEVER THE INPUT: true; the input reads as it did. -/
def modelRunsSpec : ChangeSpec := { name := "modelRuns", fn := fun _ => fun
  | [] => { results := [.lit (.bool true)], args := [] }
  | _ => none }
def modelRunsRow : OpenClaim := { program := "ytnjfbmnecfiliaa", sum := "8fc1fd63834529b37ca12288dbec057db31b601cb8c600c8e7788c3eb2fdc4b0", func := "copse/copselaw8.ModelRuns", spec := "modelRuns", recurses := true, apart := false }
def ModelRunsSaid : Prop := modelRunsRow.holds Try.pinned (OpenSpec.ofChange modelRunsSpec)

/-- ITS FALSE NEIGHBOUR: 'it returns false'. Refute it at one input. -/
def modelRunsWrong : ChangeSpec := { name := "modelRuns", fn := fun _ => fun
  | [] => { results := [.lit (.bool false)], args := [] }
  | _ => none }
def ModelRunsWrongFalsely : Prop := modelRunsRow.holds Try.pinned (OpenSpec.ofChange modelRunsWrong)

/-- 'copselaw8.ModelTells': WHATEVER THE INPUT: true; the input reads as it did. -/
def modelTellsSpec : ChangeSpec := { name := "modelTells", fn := fun _ => fun
  | [d1, d2, d3, d4, d5] => { results := [.lit (.bool true)], args := [d1, d2, d3, d4, d5] }
  | _ => none }
def modelTellsRow : OpenClaim := { program := "ytnjfbmnecfiliaa", sum := "8fc1fd63834529b37ca12288dbec057db31b601cb8c600c8e7788c3eb2fdc4b0", func := "copse/copselaw8.ModelTells", spec := "modelTells", recurses := true, apart := false }
def ModelTellsSaid : Prop := modelTellsRow.holds Try.pinned (OpenSpec.ofChange modelTellsSpec)

/-- ITS FALSE NEIGHBOUR: 'it returns false'. Refute it at one input. -/
def modelTellsWrong : ChangeSpec := { name := "modelTells", fn := fun _ => fun
  | [d1, d2, d3, d4, d5] => { results := [.lit (.bool false)], args := [d1, d2, d3, d4, d5] }
  | _ => none }
def ModelTellsWrongFalsely : Prop := modelTellsRow.holds Try.pinned (OpenSpec.ofChange modelTellsWrong)

/-- 'copselaw8.ModelBest': WHATEVER THE INPUT: true; the input reads as it did. -/
def modelBestSpec : ChangeSpec := { name := "modelBest", fn := fun _ => fun
  | [d1, d2] => { results := [.lit (.bool true)], args := [d1, d2] }
  | _ => none }
def modelBestRow : OpenClaim := { program := "ytnjfbmnecfiliaa", sum := "8fc1fd63834529b37ca12288dbec057db31b601cb8c600c8e7788c3eb2fdc4b0", func := "copse/copselaw8.ModelBest", spec := "modelBest", recurses := true, apart := false }
def ModelBestSaid : Prop := modelBestRow.holds Try.pinned (OpenSpec.ofChange modelBestSpec)

/-- ITS FALSE NEIGHBOUR: 'it returns false'. Refute it at one input. -/
def modelBestWrong : ChangeSpec := { name := "modelBest", fn := fun _ => fun
  | [d1, d2] => { results := [.lit (.bool false)], args := [d1, d2] }
  | _ => none }
def ModelBestWrongFalsely : Prop := modelBestRow.holds Try.pinned (OpenSpec.ofChange modelBestWrong)

/-- 'copselaw8.ModelCells': WHATEVER THE INPUT: true; the input reads as it did. -/
def modelCellsSpec : ChangeSpec := { name := "modelCells", fn := fun _ => fun
  | [d1, d2, d3] => { results := [.lit (.bool true)], args := [d1, d2, d3] }
  | _ => none }
def modelCellsRow : OpenClaim := { program := "ytnjfbmnecfiliaa", sum := "8fc1fd63834529b37ca12288dbec057db31b601cb8c600c8e7788c3eb2fdc4b0", func := "copse/copselaw8.ModelCells", spec := "modelCells", recurses := true, apart := false }
def ModelCellsSaid : Prop := modelCellsRow.holds Try.pinned (OpenSpec.ofChange modelCellsSpec)

/-- ITS FALSE NEIGHBOUR: 'it returns false'. Refute it at one input. -/
def modelCellsWrong : ChangeSpec := { name := "modelCells", fn := fun _ => fun
  | [d1, d2, d3] => { results := [.lit (.bool false)], args := [d1, d2, d3] }
  | _ => none }
def ModelCellsWrongFalsely : Prop := modelCellsRow.holds Try.pinned (OpenSpec.ofChange modelCellsWrong)

/-- 'copselaw8.ModelSums': WHATEVER THE INPUT: true; the input reads as it did. -/
def modelSumsSpec : ChangeSpec := { name := "modelSums", fn := fun _ => fun
  | [d1, d2, d3] => { results := [.lit (.bool true)], args := [d1, d2, d3] }
  | _ => none }
def modelSumsRow : OpenClaim := { program := "ytnjfbmnecfiliaa", sum := "8fc1fd63834529b37ca12288dbec057db31b601cb8c600c8e7788c3eb2fdc4b0", func := "copse/copselaw8.ModelSums", spec := "modelSums", recurses := true, apart := false }
def ModelSumsSaid : Prop := modelSumsRow.holds Try.pinned (OpenSpec.ofChange modelSumsSpec)

/-- ITS FALSE NEIGHBOUR: 'it returns false'. Refute it at one input. -/
def modelSumsWrong : ChangeSpec := { name := "modelSums", fn := fun _ => fun
  | [d1, d2, d3] => { results := [.lit (.bool false)], args := [d1, d2, d3] }
  | _ => none }
def ModelSumsWrongFalsely : Prop := modelSumsRow.holds Try.pinned (OpenSpec.ofChange modelSumsWrong)

/-- 'copselaw8.ModelEdges': WHATEVER THE INPUT: true; the input reads as it did. -/
def modelEdgesSpec : ChangeSpec := { name := "modelEdges", fn := fun _ => fun
  | [d1, d2, d3, d4] => { results := [.lit (.bool true)], args := [d1, d2, d3, d4] }
  | _ => none }
def modelEdgesRow : OpenClaim := { program := "ytnjfbmnecfiliaa", sum := "8fc1fd63834529b37ca12288dbec057db31b601cb8c600c8e7788c3eb2fdc4b0", func := "copse/copselaw8.ModelEdges", spec := "modelEdges", recurses := true, apart := false }
def ModelEdgesSaid : Prop := modelEdgesRow.holds Try.pinned (OpenSpec.ofChange modelEdgesSpec)

/-- ITS FALSE NEIGHBOUR: 'it returns false'. Refute it at one input. -/
def modelEdgesWrong : ChangeSpec := { name := "modelEdges", fn := fun _ => fun
  | [d1, d2, d3, d4] => { results := [.lit (.bool false)], args := [d1, d2, d3, d4] }
  | _ => none }
def ModelEdgesWrongFalsely : Prop := modelEdgesRow.holds Try.pinned (OpenSpec.ofChange modelEdgesWrong)

/- THE SECOND FORM. 'bulk': how many values and letters a reading holds, each counted each time it is reached (what is shared counts as often as it is met; a slice's spare places count too). A statement '..UptoSaid' is the law's where the arguments, and the package variables that the reading takes, are together of bulk at most 1048576: NARROWER than '..Said'. Prove '..Said' where nothing that the law and all that it calls make is longer than what came in: it says more and counts as full. Else prove '..UptoSaid'. A law counts once. -/
mutual
def uptoBulk {H : Type} : DataW H → Nat
  | .lit (.string bytes) => bytes.length + 1
  | .lit _ => 1
  | .nil => 1
  | .ptr d => uptoBulk d + 1
  | .slice elems spare => uptoBulkAll elems + uptoBulkAll spare + 1
  | .agg parts => uptoBulkAll parts + 1
  | .iface _ d => uptoBulk d + 1
  | .map entries => uptoBulkEntries entries + 1
  | .held _ => 1
def uptoBulkAll {H : Type} : List (DataW H) → Nat
  | [] => 0
  | d :: r => uptoBulk d + uptoBulkAll r
def uptoBulkEntries {H : Type} : List (Lit × DataW H) → Nat
  | [] => 0
  | x :: r => uptoBulkEntry x + uptoBulkEntries r
def uptoBulkEntry {H : Type} : Lit × DataW H → Nat
  | (.string bytes, d) => bytes.length + uptoBulk d + 1
  | (_, d) => uptoBulk d + 1
 end
def uptoSmall : (H : Type) → List (DataW H) → Bool := fun _ ds => decide (uptoBulkAll ds ≤ 1048576)
def OpenSpec.upto (s : _root_.Go.ChangeSpec) : _root_.Go.OpenSpec := { _root_.Go.OpenSpec.ofChange s with cond := some uptoSmall }

/-- 'copselaw8.ModelRuns', WHERE WHAT IT READS IS OF BULK AT MOST 1048576: true; the input reads as it did. -/
def modelRunsUptoRow : OpenClaim := { program := "ytnjfbmnecfiliaa", sum := "8fc1fd63834529b37ca12288dbec057db31b601cb8c600c8e7788c3eb2fdc4b0", func := "copse/copselaw8.ModelRuns", spec := "modelRuns", recurses := true, apart := false, narrowed := true }
def ModelRunsUptoSaid : Prop := modelRunsUptoRow.holds Try.pinned (OpenSpec.upto modelRunsSpec)

/-- 'copselaw8.ModelTells', WHERE WHAT IT READS IS OF BULK AT MOST 1048576: true; the input reads as it did. -/
def modelTellsUptoRow : OpenClaim := { program := "ytnjfbmnecfiliaa", sum := "8fc1fd63834529b37ca12288dbec057db31b601cb8c600c8e7788c3eb2fdc4b0", func := "copse/copselaw8.ModelTells", spec := "modelTells", recurses := true, apart := false, narrowed := true }
def ModelTellsUptoSaid : Prop := modelTellsUptoRow.holds Try.pinned (OpenSpec.upto modelTellsSpec)

/-- 'copselaw8.ModelBest', WHERE WHAT IT READS IS OF BULK AT MOST 1048576: true; the input reads as it did. -/
def modelBestUptoRow : OpenClaim := { program := "ytnjfbmnecfiliaa", sum := "8fc1fd63834529b37ca12288dbec057db31b601cb8c600c8e7788c3eb2fdc4b0", func := "copse/copselaw8.ModelBest", spec := "modelBest", recurses := true, apart := false, narrowed := true }
def ModelBestUptoSaid : Prop := modelBestUptoRow.holds Try.pinned (OpenSpec.upto modelBestSpec)

/-- 'copselaw8.ModelCells', WHERE WHAT IT READS IS OF BULK AT MOST 1048576: true; the input reads as it did. -/
def modelCellsUptoRow : OpenClaim := { program := "ytnjfbmnecfiliaa", sum := "8fc1fd63834529b37ca12288dbec057db31b601cb8c600c8e7788c3eb2fdc4b0", func := "copse/copselaw8.ModelCells", spec := "modelCells", recurses := true, apart := false, narrowed := true }
def ModelCellsUptoSaid : Prop := modelCellsUptoRow.holds Try.pinned (OpenSpec.upto modelCellsSpec)

/-- 'copselaw8.ModelSums', WHERE WHAT IT READS IS OF BULK AT MOST 1048576: true; the input reads as it did. -/
def modelSumsUptoRow : OpenClaim := { program := "ytnjfbmnecfiliaa", sum := "8fc1fd63834529b37ca12288dbec057db31b601cb8c600c8e7788c3eb2fdc4b0", func := "copse/copselaw8.ModelSums", spec := "modelSums", recurses := true, apart := false, narrowed := true }
def ModelSumsUptoSaid : Prop := modelSumsUptoRow.holds Try.pinned (OpenSpec.upto modelSumsSpec)

/-- 'copselaw8.ModelEdges', WHERE WHAT IT READS IS OF BULK AT MOST 1048576: true; the input reads as it did. -/
def modelEdgesUptoRow : OpenClaim := { program := "ytnjfbmnecfiliaa", sum := "8fc1fd63834529b37ca12288dbec057db31b601cb8c600c8e7788c3eb2fdc4b0", func := "copse/copselaw8.ModelEdges", spec := "modelEdges", recurses := true, apart := false, narrowed := true }
def ModelEdgesUptoSaid : Prop := modelEdgesUptoRow.holds Try.pinned (OpenSpec.upto modelEdgesSpec)

end Rows
end Go.Proofs.Ytnjfbmnecfiliaa
