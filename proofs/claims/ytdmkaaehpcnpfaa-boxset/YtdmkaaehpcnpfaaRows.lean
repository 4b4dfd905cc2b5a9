/-
  No cell of these rows narrows 'for every input' (looked for: loops, veiled, ifaces, maps, wideKeys, modest, calm, conditions, laid).
  DERIVED. THE GIVEN ROWS OF THIS SEAT. 6 by the template 'for every input the law returns true; each argument reads behind the call as it read before'; 0 by the template 'total and deterministic' (their statements: YtdmkaaehpcnpfaaTotals.lean).
  GIVEN WITH THE SEED: the statements are not yours to turn. If you find one false, say at which input.
  Laid BY PROGRAM, IN A SANDBOX (cutbox-rows.mjs): the forced cells as the released guide's own fill.sh prints them over the translation 5ac55c9525588a7e… (all of the seat's roots in one cut). By AI agents, Wed Nov 11 2026. No macro, syntax, notation, axiom, sorry.
-/
import Derived.Test.YtdmkaaehpcnpfaaChecked
import GoSem.Claim
import GoSem.ClaimJoined
import GoSem.ClaimMapViews
import Derived.JoinedTies
import Derived.KernelRfl
namespace Go.Proofs.Ytdmkaaehpcnpfaa
/- THE CELL 'sum', in the pinned program and in every row, IS THE sha256 OF THE DUMP (.gsa) THAT YtdmkaaehpcnpfaaProg.lean LOADS. Nothing in Lean hashes anything: it is a label: what it is worth is what the hold of that sum in a sandbox is worth. -/
noncomputable def Try.pinned : Pinned := { name := "ytdmkaaehpcnpfaa", sum := "5ac55c9525588a7e288eaa2917338f99df3755550429799232c1fc85aa15f97f", checked := Try.checked }
namespace Rows
def none {H : Type} : Left H := { results := [], args := [] }

/-- 'copselaw5.BoxRuns': WHATEVER THE INPUT: true; the input reads as it did. -/
def boxRunsSpec : ChangeSpec := { name := "boxRuns", fn := fun _ => fun
  | [] => { results := [.lit (.bool true)], args := [] }
  | _ => none }
def boxRunsRow : OpenClaim := { program := "ytdmkaaehpcnpfaa", sum := "5ac55c9525588a7e288eaa2917338f99df3755550429799232c1fc85aa15f97f", func := "copse/copselaw5.BoxRuns", spec := "boxRuns", plainKeys := false, apart := false }
def BoxRunsSaid : Prop := boxRunsRow.holds Try.pinned (OpenSpec.ofChange boxRunsSpec)

/-- ITS FALSE NEIGHBOUR: 'it returns false'. Refute it at one input. -/
def boxRunsWrong : ChangeSpec := { name := "boxRuns", fn := fun _ => fun
  | [] => { results := [.lit (.bool false)], args := [] }
  | _ => none }
def BoxRunsWrongFalsely : Prop := boxRunsRow.holds Try.pinned (OpenSpec.ofChange boxRunsWrong)

/-- 'copselaw5.BoxParts': WHATEVER THE INPUT: true; the input reads as it did. -/
def boxPartsSpec : ChangeSpec := { name := "boxParts", fn := fun _ => fun
  | [d1, d2, d3, d4, d5] => { results := [.lit (.bool true)], args := [d1, d2, d3, d4, d5] }
  | _ => none }
def boxPartsRow : OpenClaim := { program := "ytdmkaaehpcnpfaa", sum := "5ac55c9525588a7e288eaa2917338f99df3755550429799232c1fc85aa15f97f", func := "copse/copselaw5.BoxParts", spec := "boxParts", plainKeys := false, apart := false }
def BoxPartsSaid : Prop := boxPartsRow.holds Try.pinned (OpenSpec.ofChange boxPartsSpec)

/-- ITS FALSE NEIGHBOUR: 'it returns false'. Refute it at one input. -/
def boxPartsWrong : ChangeSpec := { name := "boxParts", fn := fun _ => fun
  | [d1, d2, d3, d4, d5] => { results := [.lit (.bool false)], args := [d1, d2, d3, d4, d5] }
  | _ => none }
def BoxPartsWrongFalsely : Prop := boxPartsRow.holds Try.pinned (OpenSpec.ofChange boxPartsWrong)

/-- 'copselaw5.BoxMeets': WHATEVER THE INPUT: true; the input reads as it did. -/
def boxMeetsSpec : ChangeSpec := { name := "boxMeets", fn := fun _ => fun
  | [d1, d2, d3, d4, d5] => { results := [.lit (.bool true)], args := [d1, d2, d3, d4, d5] }
  | _ => none }
def boxMeetsRow : OpenClaim := { program := "ytdmkaaehpcnpfaa", sum := "5ac55c9525588a7e288eaa2917338f99df3755550429799232c1fc85aa15f97f", func := "copse/copselaw5.BoxMeets", spec := "boxMeets", plainKeys := false, apart := false }
def BoxMeetsSaid : Prop := boxMeetsRow.holds Try.pinned (OpenSpec.ofChange boxMeetsSpec)

/-- ITS FALSE NEIGHBOUR: 'it returns false'. Refute it at one input. -/
def boxMeetsWrong : ChangeSpec := { name := "boxMeets", fn := fun _ => fun
  | [d1, d2, d3, d4, d5] => { results := [.lit (.bool false)], args := [d1, d2, d3, d4, d5] }
  | _ => none }
def BoxMeetsWrongFalsely : Prop := boxMeetsRow.holds Try.pinned (OpenSpec.ofChange boxMeetsWrong)

/-- 'copselaw5.BoxWhole': WHATEVER THE INPUT: true; the input reads as it did. -/
def boxWholeSpec : ChangeSpec := { name := "boxWhole", fn := fun _ => fun
  | [d1, d2] => { results := [.lit (.bool true)], args := [d1, d2] }
  | _ => none }
def boxWholeRow : OpenClaim := { program := "ytdmkaaehpcnpfaa", sum := "5ac55c9525588a7e288eaa2917338f99df3755550429799232c1fc85aa15f97f", func := "copse/copselaw5.BoxWhole", spec := "boxWhole", plainKeys := false, apart := false }
def BoxWholeSaid : Prop := boxWholeRow.holds Try.pinned (OpenSpec.ofChange boxWholeSpec)

/-- ITS FALSE NEIGHBOUR: 'it returns false'. Refute it at one input. -/
def boxWholeWrong : ChangeSpec := { name := "boxWhole", fn := fun _ => fun
  | [d1, d2] => { results := [.lit (.bool false)], args := [d1, d2] }
  | _ => none }
def BoxWholeWrongFalsely : Prop := boxWholeRow.holds Try.pinned (OpenSpec.ofChange boxWholeWrong)

/-- 'copselaw5.BoxSet': WHATEVER THE INPUT: true; the input reads as it did. -/
def boxSetSpec : ChangeSpec := { name := "boxSet", fn := fun _ => fun
  | [d1, d2] => { results := [.lit (.bool true)], args := [d1, d2] }
  | _ => none }
def boxSetRow : OpenClaim := { program := "ytdmkaaehpcnpfaa", sum := "5ac55c9525588a7e288eaa2917338f99df3755550429799232c1fc85aa15f97f", func := "copse/copselaw5.BoxSet", spec := "boxSet", plainKeys := false, apart := false }
def BoxSetSaid : Prop := boxSetRow.holds Try.pinned (OpenSpec.ofChange boxSetSpec)

/-- ITS FALSE NEIGHBOUR: 'it returns false'. Refute it at one input. -/
def boxSetWrong : ChangeSpec := { name := "boxSet", fn := fun _ => fun
  | [d1, d2] => { results := [.lit (.bool false)], args := [d1, d2] }
  | _ => none }
def BoxSetWrongFalsely : Prop := boxSetRow.holds Try.pinned (OpenSpec.ofChange boxSetWrong)

/-- 'copselaw5.BoxCuts': WHATEVER THE INPUT: true; the input reads as it did. -/
def boxCutsSpec : ChangeSpec := { name := "boxCuts", fn := fun _ => fun
  | [d1, d2, d3, d4, d5, d6, d7] => { results := [.lit (.bool true)], args := [d1, d2, d3, d4, d5, d6, d7] }
  | _ => none }
def boxCutsRow : OpenClaim := { program := "ytdmkaaehpcnpfaa", sum := "5ac55c9525588a7e288eaa2917338f99df3755550429799232c1fc85aa15f97f", func := "copse/copselaw5.BoxCuts", spec := "boxCuts", plainKeys := false, apart := false }
def BoxCutsSaid : Prop := boxCutsRow.holds Try.pinned (OpenSpec.ofChange boxCutsSpec)

/-- ITS FALSE NEIGHBOUR: 'it returns false'. Refute it at one input. -/
def boxCutsWrong : ChangeSpec := { name := "boxCuts", fn := fun _ => fun
  | [d1, d2, d3, d4, d5, d6, d7] => { results := [.lit (.bool false)], args := [d1, d2, d3, d4, d5, d6, d7] }
  | _ => none }
def BoxCutsWrongFalsely : Prop := boxCutsRow.holds Try.pinned (OpenSpec.ofChange boxCutsWrong)

/- THE SECOND FORM. 'bulk': how many values and letters a reading holds, each counted each time it is reached (what is shared counts as often as it is met; a slice's spare places count too). A statement '..UptoSaid' is the law's where the arguments, and the package variables that the reading takes, are together of bulk at most 1048576: NARROWER than '..Said'. Prove '..Said' where nothing that the law and all that it calls make is longer than what came in: it says more and counts as full. Else prove '..UptoSaid'. A law counts once. -/
mutual
def uptoBulk {H : Type} : DataW H → Nat
  | .lit (.string bytes) => bytes.length + 1
  | .lit _ => 1
  | .nil => 1
  | .ptr d => uptoBulk d + 1
  | .slice elems spare => uptoBulkAll elems + uptoBulkAll spare + 1
  | .agg parts => uptoBulkAll parts + 1
  | .iface _ d => uptoBulk d + 1
  | .map entries => uptoBulkEntries entries + 1
  | .held _ => 1
def uptoBulkAll {H : Type} : List (DataW H) → Nat
  | [] => 0
  | d :: r => uptoBulk d + uptoBulkAll r
def uptoBulkEntries {H : Type} : List (Lit × DataW H) → Nat
  | [] => 0
  | x :: r => uptoBulkEntry x + uptoBulkEntries r
def uptoBulkEntry {H : Type} : Lit × DataW H → Nat
  | (.string bytes, d) => bytes.length + uptoBulk d + 1
  | (_, d) => uptoBulk d + 1
 end
def uptoSmall : (H : Type) → List (DataW H) → Bool := fun _ ds => decide (uptoBulkAll ds ≤ 1048576)
def OpenSpec.upto (s : _root_.Go.ChangeSpec) : _root_.Go.OpenSpec := { _root_.Go.OpenSpec.ofChange s with cond := some uptoSmall }

/-- 'copselaw5.BoxRuns', WHERE WHAT IT READS IS OF BULK AT MOST 1048576: true; the input reads as it did. -/
def boxRunsUptoRow : OpenClaim := { program := "ytdmkaaehpcnpfaa", sum := "5ac55c9525588a7e288eaa2917338f99df3755550429799232c1fc85aa15f97f", func := "copse/copselaw5.BoxRuns", spec := "boxRuns", plainKeys := false, apart := false, narrowed := true }
def BoxRunsUptoSaid : Prop := boxRunsUptoRow.holds Try.pinned (OpenSpec.upto boxRunsSpec)

/-- 'copselaw5.BoxParts', WHERE WHAT IT READS IS OF BULK AT MOST 1048576: true; the input reads as it did. -/
def boxPartsUptoRow : OpenClaim := { program := "ytdmkaaehpcnpfaa", sum := "5ac55c9525588a7e288eaa2917338f99df3755550429799232c1fc85aa15f97f", func := "copse/copselaw5.BoxParts", spec := "boxParts", plainKeys := false, apart := false, narrowed := true }
def BoxPartsUptoSaid : Prop := boxPartsUptoRow.holds Try.pinned (OpenSpec.upto boxPartsSpec)

/-- 'copselaw5.BoxMeets', WHERE WHAT IT READS IS OF BULK AT MOST 1048576: true; the input reads as it did. -/
def boxMeetsUptoRow : OpenClaim := { program := "ytdmkaaehpcnpfaa", sum := "5ac55c9525588a7e288eaa2917338f99df3755550429799232c1fc85aa15f97f", func := "copse/copselaw5.BoxMeets", spec := "boxMeets", plainKeys := false, apart := false, narrowed := true }
def BoxMeetsUptoSaid : Prop := boxMeetsUptoRow.holds Try.pinned (OpenSpec.upto boxMeetsSpec)

/-- 'copselaw5.BoxWhole', WHERE WHAT IT READS IS OF BULK AT MOST 1048576: true; the input reads as it did. -/
def boxWholeUptoRow : OpenClaim := { program := "ytdmkaaehpcnpfaa", sum := "5ac55c9525588a7e288eaa2917338f99df3755550429799232c1fc85aa15f97f", func := "copse/copselaw5.BoxWhole", spec := "boxWhole", plainKeys := false, apart := false, narrowed := true }
def BoxWholeUptoSaid : Prop := boxWholeUptoRow.holds Try.pinned (OpenSpec.upto boxWholeSpec)

/-- 'copselaw5.BoxSet', WHERE WHAT IT READS IS OF BULK AT MOST 1048576: true; the input reads as it did. -/
def boxSetUptoRow : OpenClaim := { program := "ytdmkaaehpcnpfaa", sum := "5ac55c9525588a7e288eaa2917338f99df3755550429799232c1fc85aa15f97f", func := "copse/copselaw5.BoxSet", spec := "boxSet", plainKeys := false, apart := false, narrowed := true }
def BoxSetUptoSaid : Prop := boxSetUptoRow.holds Try.pinned (OpenSpec.upto boxSetSpec)

/-- 'copselaw5.BoxCuts', WHERE WHAT IT READS IS OF BULK AT MOST 1048576: true; the input reads as it did. -/
def boxCutsUptoRow : OpenClaim := { program := "ytdmkaaehpcnpfaa", sum := "5ac55c9525588a7e288eaa2917338f99df3755550429799232c1fc85aa15f97f", func := "copse/copselaw5.BoxCuts", spec := "boxCuts", plainKeys := false, apart := false, narrowed := true }
def BoxCutsUptoSaid : Prop := boxCutsUptoRow.holds Try.pinned (OpenSpec.upto boxCutsSpec)

end Rows
end Go.Proofs.Ytdmkaaehpcnpfaa
