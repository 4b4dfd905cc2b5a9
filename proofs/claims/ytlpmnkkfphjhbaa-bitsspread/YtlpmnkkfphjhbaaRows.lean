/-
  No cell of these rows narrows 'for every input' (looked for: loops, veiled, ifaces, maps, wideKeys, modest, calm, conditions, laid).
  DERIVED. THE GIVEN ROWS OF THIS SEAT. 6 by the template 'for every input the law returns true; each argument reads behind the call as it read before'; 0 by the template 'total and deterministic' (their statements: YtlpmnkkfphjhbaaTotals.lean).
  GIVEN WITH THE SEED: the statements are not yours to turn. If you find one false, say at which input.
  Laid BY PROGRAM, IN A SANDBOX (cutbox-rows.mjs): the forced cells as the released guide's own fill.sh prints them over the translation 4bd66dc05f98e57c… (all of the seat's roots in one cut). By AI agents, Wed Nov 11 2026. No macro, syntax, notation, axiom, sorry.
-/
import Derived.Test.YtlpmnkkfphjhbaaChecked
import GoSem.Claim
import GoSem.ClaimJoined
import GoSem.ClaimMapViews
import Derived.JoinedTies
import Derived.KernelRfl
namespace Go.Proofs.Ytlpmnkkfphjhbaa
/- THE CELL 'sum', in the pinned program and in every row, IS THE sha256 OF THE DUMP (.gsa) THAT YtlpmnkkfphjhbaaProg.lean LOADS. Nothing in Lean hashes anything: it is a label: what it is worth is what the hold of that sum in a sandbox is worth. -/
noncomputable def Try.pinned : Pinned := { name := "ytlpmnkkfphjhbaa", sum := "4bd66dc05f98e57c1f1e8fc0954ab56111d47349303b6ecc6b3d88ed2250f036", checked := Try.checked }
namespace Rows
def none {H : Type} : Left H := { results := [], args := [] }

/-- 'copselaw1.BitsRuns': WHATEVER THE INPUT: true; the input reads as it did. -/
def bitsRunsSpec : ChangeSpec := { name := "bitsRuns", fn := fun _ => fun
  | [] => { results := [.lit (.bool true)], args := [] }
  | _ => none }
def bitsRunsRow : OpenClaim := { program := "ytlpmnkkfphjhbaa", sum := "4bd66dc05f98e57c1f1e8fc0954ab56111d47349303b6ecc6b3d88ed2250f036", func := "copse/copselaw1.BitsRuns", spec := "bitsRuns", apart := false }
def BitsRunsSaid : Prop := bitsRunsRow.holds Try.pinned (OpenSpec.ofChange bitsRunsSpec)

/-- ITS FALSE NEIGHBOUR: 'it returns false'. Refute it at one input. -/
def bitsRunsWrong : ChangeSpec := { name := "bitsRuns", fn := fun _ => fun
  | [] => { results := [.lit (.bool false)], args := [] }
  | _ => none }
def BitsRunsWrongFalsely : Prop := bitsRunsRow.holds Try.pinned (OpenSpec.ofChange bitsRunsWrong)

/-- 'copselaw1.BitsTells': WHATEVER THE INPUT: true; the input reads as it did. -/
def bitsTellsSpec : ChangeSpec := { name := "bitsTells", fn := fun _ => fun
  | [d1, d2, d3, d4, d5, d6] => { results := [.lit (.bool true)], args := [d1, d2, d3, d4, d5, d6] }
  | _ => none }
def bitsTellsRow : OpenClaim := { program := "ytlpmnkkfphjhbaa", sum := "4bd66dc05f98e57c1f1e8fc0954ab56111d47349303b6ecc6b3d88ed2250f036", func := "copse/copselaw1.BitsTells", spec := "bitsTells", apart := false }
def BitsTellsSaid : Prop := bitsTellsRow.holds Try.pinned (OpenSpec.ofChange bitsTellsSpec)

/-- ITS FALSE NEIGHBOUR: 'it returns false'. Refute it at one input. -/
def bitsTellsWrong : ChangeSpec := { name := "bitsTells", fn := fun _ => fun
  | [d1, d2, d3, d4, d5, d6] => { results := [.lit (.bool false)], args := [d1, d2, d3, d4, d5, d6] }
  | _ => none }
def BitsTellsWrongFalsely : Prop := bitsTellsRow.holds Try.pinned (OpenSpec.ofChange bitsTellsWrong)

/-- 'copselaw1.BitsFields': WHATEVER THE INPUT: true; the input reads as it did. -/
def bitsFieldsSpec : ChangeSpec := { name := "bitsFields", fn := fun _ => fun
  | [d1, d2, d3, d4, d5, d6] => { results := [.lit (.bool true)], args := [d1, d2, d3, d4, d5, d6] }
  | _ => none }
def bitsFieldsRow : OpenClaim := { program := "ytlpmnkkfphjhbaa", sum := "4bd66dc05f98e57c1f1e8fc0954ab56111d47349303b6ecc6b3d88ed2250f036", func := "copse/copselaw1.BitsFields", spec := "bitsFields", apart := false }
def BitsFieldsSaid : Prop := bitsFieldsRow.holds Try.pinned (OpenSpec.ofChange bitsFieldsSpec)

/-- ITS FALSE NEIGHBOUR: 'it returns false'. Refute it at one input. -/
def bitsFieldsWrong : ChangeSpec := { name := "bitsFields", fn := fun _ => fun
  | [d1, d2, d3, d4, d5, d6] => { results := [.lit (.bool false)], args := [d1, d2, d3, d4, d5, d6] }
  | _ => none }
def BitsFieldsWrongFalsely : Prop := bitsFieldsRow.holds Try.pinned (OpenSpec.ofChange bitsFieldsWrong)

/-- 'copselaw1.BitsWraps': WHATEVER THE INPUT: true; the input reads as it did. -/
def bitsWrapsSpec : ChangeSpec := { name := "bitsWraps", fn := fun _ => fun
  | [d1, d2, d3] => { results := [.lit (.bool true)], args := [d1, d2, d3] }
  | _ => none }
def bitsWrapsRow : OpenClaim := { program := "ytlpmnkkfphjhbaa", sum := "4bd66dc05f98e57c1f1e8fc0954ab56111d47349303b6ecc6b3d88ed2250f036", func := "copse/copselaw1.BitsWraps", spec := "bitsWraps", apart := false }
def BitsWrapsSaid : Prop := bitsWrapsRow.holds Try.pinned (OpenSpec.ofChange bitsWrapsSpec)

/-- ITS FALSE NEIGHBOUR: 'it returns false'. Refute it at one input. -/
def bitsWrapsWrong : ChangeSpec := { name := "bitsWraps", fn := fun _ => fun
  | [d1, d2, d3] => { results := [.lit (.bool false)], args := [d1, d2, d3] }
  | _ => none }
def BitsWrapsWrongFalsely : Prop := bitsWrapsRow.holds Try.pinned (OpenSpec.ofChange bitsWrapsWrong)

/-- 'copselaw1.BitsNearest': WHATEVER THE INPUT: true; the input reads as it did. -/
def bitsNearestSpec : ChangeSpec := { name := "bitsNearest", fn := fun _ => fun
  | [d1, d2] => { results := [.lit (.bool true)], args := [d1, d2] }
  | _ => none }
def bitsNearestRow : OpenClaim := { program := "ytlpmnkkfphjhbaa", sum := "4bd66dc05f98e57c1f1e8fc0954ab56111d47349303b6ecc6b3d88ed2250f036", func := "copse/copselaw1.BitsNearest", spec := "bitsNearest", apart := false }
def BitsNearestSaid : Prop := bitsNearestRow.holds Try.pinned (OpenSpec.ofChange bitsNearestSpec)

/-- ITS FALSE NEIGHBOUR: 'it returns false'. Refute it at one input. -/
def bitsNearestWrong : ChangeSpec := { name := "bitsNearest", fn := fun _ => fun
  | [d1, d2] => { results := [.lit (.bool false)], args := [d1, d2] }
  | _ => none }
def BitsNearestWrongFalsely : Prop := bitsNearestRow.holds Try.pinned (OpenSpec.ofChange bitsNearestWrong)

/-- 'copselaw1.BitsSpread': WHATEVER THE INPUT: true; the input reads as it did. -/
def bitsSpreadSpec : ChangeSpec := { name := "bitsSpread", fn := fun _ => fun
  | [d1, d2, d3] => { results := [.lit (.bool true)], args := [d1, d2, d3] }
  | _ => none }
def bitsSpreadRow : OpenClaim := { program := "ytlpmnkkfphjhbaa", sum := "4bd66dc05f98e57c1f1e8fc0954ab56111d47349303b6ecc6b3d88ed2250f036", func := "copse/copselaw1.BitsSpread", spec := "bitsSpread", apart := false }
def BitsSpreadSaid : Prop := bitsSpreadRow.holds Try.pinned (OpenSpec.ofChange bitsSpreadSpec)

/-- ITS FALSE NEIGHBOUR: 'it returns false'. Refute it at one input. -/
def bitsSpreadWrong : ChangeSpec := { name := "bitsSpread", fn := fun _ => fun
  | [d1, d2, d3] => { results := [.lit (.bool false)], args := [d1, d2, d3] }
  | _ => none }
def BitsSpreadWrongFalsely : Prop := bitsSpreadRow.holds Try.pinned (OpenSpec.ofChange bitsSpreadWrong)

/- THE SECOND FORM. 'bulk': how many values and letters a reading holds, each counted each time it is reached (what is shared counts as often as it is met; a slice's spare places count too). A statement '..UptoSaid' is the law's where the arguments, and the package variables that the reading takes, are together of bulk at most 1048576: NARROWER than '..Said'. Prove '..Said' where nothing that the law and all that it calls make is longer than what came in: it says more and counts as full. Else prove '..UptoSaid'. A law counts once. -/
mutual
def uptoBulk {H : Type} : DataW H → Nat
  | .lit (.string bytes) => bytes.length + 1
  | .lit _ => 1
  | .nil => 1
  | .ptr d => uptoBulk d + 1
  | .slice elems spare => uptoBulkAll elems + uptoBulkAll spare + 1
  | .agg parts => uptoBulkAll parts + 1
  | .iface _ d => uptoBulk d + 1
  | .map entries => uptoBulkEntries entries + 1
  | .held _ => 1
def uptoBulkAll {H : Type} : List (DataW H) → Nat
  | [] => 0
  | d :: r => uptoBulk d + uptoBulkAll r
def uptoBulkEntries {H : Type} : List (Lit × DataW H) → Nat
  | [] => 0
  | x :: r => uptoBulkEntry x + uptoBulkEntries r
def uptoBulkEntry {H : Type} : Lit × DataW H → Nat
  | (.string bytes, d) => bytes.length + uptoBulk d + 1
  | (_, d) => uptoBulk d + 1
 end
def uptoSmall : (H : Type) → List (DataW H) → Bool := fun _ ds => decide (uptoBulkAll ds ≤ 1048576)
def OpenSpec.upto (s : _root_.Go.ChangeSpec) : _root_.Go.OpenSpec := { _root_.Go.OpenSpec.ofChange s with cond := some uptoSmall }

/-- 'copselaw1.BitsRuns', WHERE WHAT IT READS IS OF BULK AT MOST 1048576: true; the input reads as it did. -/
def bitsRunsUptoRow : OpenClaim := { program := "ytlpmnkkfphjhbaa", sum := "4bd66dc05f98e57c1f1e8fc0954ab56111d47349303b6ecc6b3d88ed2250f036", func := "copse/copselaw1.BitsRuns", spec := "bitsRuns", apart := false, narrowed := true }
def BitsRunsUptoSaid : Prop := bitsRunsUptoRow.holds Try.pinned (OpenSpec.upto bitsRunsSpec)

/-- 'copselaw1.BitsTells', WHERE WHAT IT READS IS OF BULK AT MOST 1048576: true; the input reads as it did. -/
def bitsTellsUptoRow : OpenClaim := { program := "ytlpmnkkfphjhbaa", sum := "4bd66dc05f98e57c1f1e8fc0954ab56111d47349303b6ecc6b3d88ed2250f036", func := "copse/copselaw1.BitsTells", spec := "bitsTells", apart := false, narrowed := true }
def BitsTellsUptoSaid : Prop := bitsTellsUptoRow.holds Try.pinned (OpenSpec.upto bitsTellsSpec)

/-- 'copselaw1.BitsFields', WHERE WHAT IT READS IS OF BULK AT MOST 1048576: true; the input reads as it did. -/
def bitsFieldsUptoRow : OpenClaim := { program := "ytlpmnkkfphjhbaa", sum := "4bd66dc05f98e57c1f1e8fc0954ab56111d47349303b6ecc6b3d88ed2250f036", func := "copse/copselaw1.BitsFields", spec := "bitsFields", apart := false, narrowed := true }
def BitsFieldsUptoSaid : Prop := bitsFieldsUptoRow.holds Try.pinned (OpenSpec.upto bitsFieldsSpec)

/-- 'copselaw1.BitsWraps', WHERE WHAT IT READS IS OF BULK AT MOST 1048576: true; the input reads as it did. -/
def bitsWrapsUptoRow : OpenClaim := { program := "ytlpmnkkfphjhbaa", sum := "4bd66dc05f98e57c1f1e8fc0954ab56111d47349303b6ecc6b3d88ed2250f036", func := "copse/copselaw1.BitsWraps", spec := "bitsWraps", apart := false, narrowed := true }
def BitsWrapsUptoSaid : Prop := bitsWrapsUptoRow.holds Try.pinned (OpenSpec.upto bitsWrapsSpec)

/-- 'copselaw1.BitsNearest', WHERE WHAT IT READS IS OF BULK AT MOST 1048576: true; the input reads as it did. -/
def bitsNearestUptoRow : OpenClaim := { program := "ytlpmnkkfphjhbaa", sum := "4bd66dc05f98e57c1f1e8fc0954ab56111d47349303b6ecc6b3d88ed2250f036", func := "copse/copselaw1.BitsNearest", spec := "bitsNearest", apart := false, narrowed := true }
def BitsNearestUptoSaid : Prop := bitsNearestUptoRow.holds Try.pinned (OpenSpec.upto bitsNearestSpec)

/-- 'copselaw1.BitsSpread', WHERE WHAT IT READS IS OF BULK AT MOST 1048576: true; the input reads as it did. -/
def bitsSpreadUptoRow : OpenClaim := { program := "ytlpmnkkfphjhbaa", sum := "4bd66dc05f98e57c1f1e8fc0954ab56111d47349303b6ecc6b3d88ed2250f036", func := "copse/copselaw1.BitsSpread", spec := "bitsSpread", apart := false, narrowed := true }
def BitsSpreadUptoSaid : Prop := bitsSpreadUptoRow.holds Try.pinned (OpenSpec.upto bitsSpreadSpec)

end Rows
end Go.Proofs.Ytlpmnkkfphjhbaa
