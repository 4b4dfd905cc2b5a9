/- The law ModelBest of chapter 8 (package model) answers true for whatever numbers and point.
   Conditions: none beyond those of the given statement. The walk is modelBest_walk of YtnjfbmnecfiliaaLawModelBest. -/
import Derived.Test.YtnjfbmnecfiliaaRows
import Derived.Test.YtnjfbmnecfiliaaLawModelBest
import Derived.Test.YtnjfbmnecfiliaaOpenM
import Derived.WalkKit
import Derived.ProofKit
import Derived.OpenShut
import Derived.Carry
namespace Go.Proofs.Ytnjfbmnecfiliaa.modelBest
open Go.ChangeShapes Go.WideShapes Go.ChangeAt Go.RowKit M

theorem own : ownKnob Try.prog.godebug = none := by kernel_rfl

theorem walk (x0 : Fo) (x1 : Int → Int) (w : World) (wx0 : x0.ok w) (wx1 : PtFit x1) :
    Calls Try.prog 5 #[forestV x0, pointV x1] w fun e w' => e = .returned (.bool true) ∧ Jk w w' :=
  modelBest_walk x0 x1 w wx0 wx1

set_option maxRecDepth 100000 in
theorem lifted (os : Os) (started : os.Started) (H : Type) (enc : TypeId × Value → H) :
    ReturnsInHanded {} Try.checked os 5 .any (Rows.modelBestSpec.pre6 enc Try.prog Try.f5 Rows.modelBestRow.domain false) (Rows.modelBestSpec.post enc Try.prog Try.f5 false true false false) := by
  refine returnsInHanded_of_change (C := Try.checked) own started (by kernel_rfl) Try.func5
    (ChangeSpec.witness6 (enc := enc) (C := Try.checked) false ⟨#[], #[.agg #[.int .i64 0, .int .i64 0, .slice none 0 0, .slice none 0 0], .agg #[.int .i64 0, .int .i64 0, .int .i64 0, .int .i64 0]], []⟩ 8 (by kernel_rfl) (by kernel_rfl) (by kernel_rfl) (by kernel_rfl)) ?_
  intro W base args ds gs before hval0 hW _ _
  have hval : ∀ (j : Nat) t v, Try.f5.params[j]? = some t → args[j]? = some v → Value.okWide Try.prog W .any base t v := hval0
  have hW' := hW
  obtain ⟨p, q, hA0, hV, rfl, _, _⟩ := hW
  have hA : DataW.TrodAll enc Try.prog W 0 (fun _ => true) true Try.f5.params.toList args.toList ds p := hA0
  rw [Try.params5] at hA hval
  obtain ⟨v0, vs0, d0, ds0, p0, q0, hargs, rfl, rfl, h0, r0⟩ := trodAll_cons hA
  obtain ⟨v1, vs1, d1, ds1, p1, q1, rfl, rfl, rfl, h1, r1⟩ := trodAll_cons r0
  obtain ⟨rfl, rfl, rfl⟩ := trodAll_nil r1
  obtain rfl : args = #[v0, v1] := by cases args; simp_all
  obtain ⟨rfl, rfl⟩ := trodVars_none hV
  have k0 := h0
  have k1 := h1
  obtain ⟨x0, rfl, wx0⟩ := open_forest (hval 0 42 v0 rfl rfl) h0
  obtain ⟨x1, rfl, wx1⟩ := open_pt (hval 1 33 v1 rfl rfl) h1
  clear hA0 hval0
  have l0 : ∀ x ∈ p0, x.block < W.heap.size := fun x hx => by simpa using hW'.lt x (by simp [hx])
  have l1 : ∀ x ∈ p1, x.block < W.heap.size := fun x hx => by simpa using hW'.lt x (by simp [hx])
  refine (walk x0 x1 W wx0 wx1).mono fun e W' ⟨he, hj⟩ => ?_
  subst he
  have hb := hj.below
  exact ⟨_, rfl, _, _, _, [], _, [], hW', trodAll_mk1 (shut_bool Try.underlying4 _), (trodAll_cons_mk (Below.trod laid_out (by kernel_rfl) (of_decide_eq_true (by kernel_rfl)) k0 hb l0) (trodAll_cons_mk (Below.trod laid_out (by kernel_rfl) (of_decide_eq_true (by kernel_rfl)) k1 hb l1) trodAll_mk0)), rfl, hb.frame _, fun h => by cases h⟩

theorem over : Rows.modelBestRow.holds Try.pinned (OpenSpec.ofChange Rows.modelBestSpec) :=
  OpenClaim.holds_of_wide 5 Try.f5 rfl rfl rfl rfl rfl rfl rfl ⟨rfl, rfl, rfl, rfl, rfl⟩ rfl rfl rfl rfl rfl (by kernel_rfl) Try.func5 (by kernel_rfl)
    (of_decide_eq_true (by kernel_rfl)) (by unfold Func.isWrapper; first | (rw [if_pos (by decide +kernel)]; kernel_rfl) | (rw [if_neg (by decide +kernel)]; exact ⟨rfl, rfl⟩))
    (fun os started H enc _ => lifted os started H enc)

theorem proved : Rows.ModelBestSaid :=
  over
#print axioms proved
end Go.Proofs.Ytnjfbmnecfiliaa.modelBest
