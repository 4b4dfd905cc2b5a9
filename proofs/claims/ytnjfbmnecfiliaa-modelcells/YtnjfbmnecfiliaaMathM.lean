/- Plain mathematics of chapter 8: biases, sums. No program is spoken of here. -/
import Derived.Test.YtnjfbmnecfiliaaMathT
namespace Go.Proofs.Ytnjfbmnecfiliaa.M

/-- the biases of a right model of k classes -/
def BiasP (k b0 b1 b2 : Int) : Prop := (fit32 b0 = true ∧ fit32 b1 = true ∧ fit32 b2 = true) ∧ (k ≤ 0 → b0 = 0) ∧ (k ≤ 1 → b1 = 0) ∧ (k ≤ 2 → b2 = 0)
/-- what a tree's words come to at a point -/
def valW (ws : List Int) (p : Int → Int) : Int := vlI ws (wayW ws p 31 0)
theorem nd_v_bd (x : Int) : -2147483648 ≤ (unI x).v ∧ (unI x).v ≤ 2147483647 := by
  unfold unI
  split
  · unfold readI
    split
    · exact sg_bd x
    · simp
  · simp
theorem valW_bd (ws : List Int) (p : Int → Int) : -2147483648 ≤ valW ws p ∧ valW ws p ≤ 2147483647 := by
  unfold valW
  cases h : wayW ws p 31 0 with
  | none => simp [vlI]
  | some k => exact nd_v_bd _

end Go.Proofs.Ytnjfbmnecfiliaa.M
