/- The model of chapter 8's runs (the statements' own 'three'), and what its sums are. -/
import Derived.Test.YtndnijdpafcmoaaThree
import Derived.Test.YtndnijdpafcmoaaRowsF
import Derived.Test.YtndnijdpafcmoaaModelE
namespace Go.Proofs.Ytndnijdpafcmoaa
open Go.RowKit M

theorem runs_val5 : valW (threeW 5 10 20) (fun i => if i = 0 then 5 else 0) = 10 := by decide +kernel
theorem runs_val6 : valW (threeW 5 10 20) (fun i => if i = 0 then 6 else 0) = 20 := by decide +kernel
theorem runs_val0 : valW (threeW 5 10 20) (fun _ => 0) = 10 := by decide +kernel
def runsM (a : Option Addr) (t : Option Addr) : Md := ⟨1, 1, 3, 0, 0, a, 1, 1, [⟨0, t, 3, 3, threeW 5 10 20⟩]⟩
theorem zfit0 (n : Int) (h : (decide (-4294967296 ≤ n) && decide (n ≤ 4294967296)) = true) : FitI n := by
  simp at h
  exact fit_small h.1 h.2
theorem runs_right (a t : Option Addr) : RightM (runsM a t) := by
  refine ⟨Int.le_refl 1, by show (1 : Int) ≤ 4; omega, Int.le_refl 1, by show (1 : Int) ≤ 3; omega, ?_, by show 1 ≤ 8; omega, fun i hi => ?_⟩
  · exact ⟨⟨rfl, rfl, rfl⟩, fun h => absurd h (by show ¬ (1 : Int) ≤ 0; omega), fun _ => rfl, fun _ => rfl⟩
  · have : i = 0 := by simp [runsM] at hi; omega
    subst this
    exact ⟨Int.le_refl 0, by show (0 : Int) < 1; omega, three_tree (by decide) (by decide) (by decide) (by decide) (by decide) (by decide) (Int.le_refl 1) (by show (1 : Int) ≤ 4; omega)⟩
theorem wrap64_in {n : Int} (h1 : -9223372036854775808 ≤ n) (h2 : n ≤ 9223372036854775807) : wrap64 n = n := by
  unfold wrap64
  omega
theorem runs_sum (a t : Option Addr) (p : Int → Int) : (runsM a t).sum p 0 = 3 + valW (threeW 5 10 20) p := by
  simp [Md.sum, Md.b, runsM, sumTo, tA]

end Go.Proofs.Ytndnijdpafcmoaa
