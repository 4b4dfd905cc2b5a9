/- What hasClass, rightBiases, rightTrees and Right of package model answer.
   What rightTrees and Right of package model answer. -/
import Derived.Test.YtjpffempmlfoeaaDoorRowsM
namespace Go.Proofs.YtjpffempmlfoeaaDoor
open Go.RowKit M

def hasC (k c : Int) : Bool := decide (0 ≤ c) && decide (c < k)
theorem hasC_iff {k c : Int} : hasC k c = true ↔ 0 ≤ c ∧ c < k := by simp [hasC]



theorem bx0 (x y z : Int) (w : World) : (Instr.index 38 (.agg #[.int .i64 x, .int .i64 y, .int .i64 z]) (.int .i64 0)).run Tryd.prog w = .ok (.int .i64 x) w := by kernel_rfl
theorem bx1 (x y z : Int) (w : World) : (Instr.index 38 (.agg #[.int .i64 x, .int .i64 y, .int .i64 z]) (.int .i64 1)).run Tryd.prog w = .ok (.int .i64 y) w := by kernel_rfl
theorem bx2 (x y z : Int) (w : World) : (Instr.index 38 (.agg #[.int .i64 x, .int .i64 y, .int .i64 z]) (.int .i64 2)).run Tryd.prog w = .ok (.int .i64 z) w := by kernel_rfl


end Go.Proofs.YtjpffempmlfoeaaDoor

namespace Go.Proofs.YtjpffempmlfoeaaDoor
open Go.RowKit M

theorem TrsP.step {k d : Int} {ts : List Tr} {j : Nat} (h : ∀ i, i < j → TrP k d (tA ts i)) (hj : TrP k d (tA ts j)) : ∀ i, i < j + 1 → TrP k d (tA ts i) := fun i hi => by
  by_cases e : i = j
  · exact e ▸ hj
  · exact h i (by omega)

open Classical in
theorem right_bool (m : Md) : ∃ b : Bool, b = true ↔ RightM m := ⟨decide (RightM m), by simp⟩

end Go.Proofs.YtjpffempmlfoeaaDoor
