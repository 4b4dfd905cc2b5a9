/- GridRuns of chapter 12 answers true: the walk through its Go text, by the contracts of package grid
   Conditions: none beyond those of the given statement. The walk is gridRuns_walk of YtkkbeobocbgmeaaLawGridRuns. -/
import Derived.Test.YtkkbeobocbgmeaaRows
import Derived.Test.YtkkbeobocbgmeaaLawGridRuns
import Derived.Test.YtkkbeobocbgmeaaOpenAll
import Derived.WalkKit
import Derived.ProofKit
import Derived.OpenShut
import Derived.Carry
namespace Go.Proofs.Ytkkbeobocbgmeaa.gridRuns
open Go.ChangeShapes Go.WideShapes Go.ChangeAt Go.RowKit M

theorem own : ownKnob Try.prog.godebug = none := by kernel_rfl

theorem walk   (w : World) :
    Calls Try.prog 3 #[] w fun e w' => e = .returned (.bool true) ∧ Jk w w' :=
  gridRuns_walk w

set_option maxRecDepth 100000 in
theorem lifted (os : Os) (started : os.Started) (H : Type) (enc : TypeId × Value → H) :
    ReturnsInHanded {} Try.checked os 3 .any (Rows.gridRunsSpec.pre6 enc Try.prog Try.f3 Rows.gridRunsRow.domain false) (Rows.gridRunsSpec.post enc Try.prog Try.f3 false true false false) := by
  refine returnsInHanded_of_change (C := Try.checked) own started (by kernel_rfl) Try.func3
    (ChangeSpec.witness6 (enc := enc) (C := Try.checked) false ⟨#[], #[], []⟩ 8 (by kernel_rfl) (by kernel_rfl) (by kernel_rfl) (by kernel_rfl)) ?_
  intro W base args ds gs before hval0 hW _ _
  have hW' := hW
  obtain ⟨p, q, hA0, hV, rfl, _, _⟩ := hW
  have hA : DataW.TrodAll enc Try.prog W 0 (fun _ => true) true Try.f3.params.toList args.toList ds p := hA0
  rw [Try.params3] at hA
  obtain ⟨rfl, rfl, rfl⟩ := trodAll_none hA
  obtain ⟨rfl, rfl⟩ := trodVars_none hV
  clear hA0 hval0
  refine (walk W).mono fun e W' ⟨he, hj⟩ => ?_
  subst he
  have hb := hj.below
  exact ⟨_, rfl, _, _, _, [], _, [], hW', trodAll_mk1 (shut_bool Try.underlying4 _), trodAll_mk0, rfl, hb.frame _, fun h => by cases h⟩

theorem over : Rows.gridRunsRow.holds Try.pinned (OpenSpec.ofChange Rows.gridRunsSpec) :=
  OpenClaim.holds_of_wide 3 Try.f3 rfl rfl rfl rfl rfl rfl rfl ⟨rfl, rfl, rfl, rfl, rfl⟩ rfl rfl rfl rfl rfl (by kernel_rfl) Try.func3 (by kernel_rfl)
    (of_decide_eq_true (by kernel_rfl)) (by unfold Func.isWrapper; first | (rw [if_pos (by decide +kernel)]; kernel_rfl) | (rw [if_neg (by decide +kernel)]; exact ⟨rfl, rfl⟩))
    (fun os started H enc _ => lifted os started H enc)

theorem proved : Rows.GridRunsSaid :=
  over
#print axioms proved
end Go.Proofs.Ytkkbeobocbgmeaa.gridRuns
