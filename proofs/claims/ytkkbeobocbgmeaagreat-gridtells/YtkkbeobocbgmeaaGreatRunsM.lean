/- The nodes of a tree of one threshold (the statements' own 'three').
   The model of chapter 8's runs (the statements' own 'three'), and what its sums are. -/
import Derived.Test.YtkkbeobocbgmeaaGreatRowsF
import Derived.Test.YtkkbeobocbgmeaaGreatMathT
import Derived.Test.YtkkbeobocbgmeaaGreatRefNode
import Derived.Test.YtkkbeobocbgmeaaGreatModelE
namespace Go.Proofs.YtkkbeobocbgmeaaGreat
open Go.RowKit M

def threeN (at_ a b : Int) : List Nd := [⟨false, 0, 0, at_, 1, 2⟩, ndLeaf a, ndLeaf b]
def threeW (at_ a b : Int) : List Int := (threeN at_ a b).map Nd.pack
theorem three_tree {at_ a b d : Int} (h1 : 0 ≤ at_) (h2 : at_ ≤ 9) (h3 : -3000 ≤ a) (h4 : a ≤ 3000) (h5 : -3000 ≤ b) (h6 : b ≤ 3000) (hd : 1 ≤ d) (hd4 : d ≤ 4) : TreeP (threeW at_ a b) d :=
  ((bush_one (v := 0) (by omega) (by omega) d).part (k := 0) (A := 0) (f := 0) (a := at_) (u := a) (v := b) (by decide) (by decide) rfl (by omega) (by omega) hd4 h1 h2 h3 h4 h5 h6 (by decide)).tree (by simp) (by simp)
/-- words of the call's own -/
def GotW (w : World) (ws : List Int) (e : Ending) (w' : World) : Prop :=
  ∃ g, e = .returned (.slice (some ⟨g, 0, none⟩) 3 3) ∧ IsW w' (some ⟨g, 0, none⟩) 3 3 ws ∧ w.heap.size ≤ g ∧ g < w'.heap.size ∧ Jk w w'


end Go.Proofs.YtkkbeobocbgmeaaGreat

namespace Go.Proofs.YtkkbeobocbgmeaaGreat
open Go.RowKit M

theorem runs_val5 : valW (threeW 5 10 20) (fun i => if i = 0 then 5 else 0) = 10 := by decide +kernel
theorem runs_val6 : valW (threeW 5 10 20) (fun i => if i = 0 then 6 else 0) = 20 := by decide +kernel
theorem runs_val0 : valW (threeW 5 10 20) (fun _ => 0) = 10 := by decide +kernel
def runsM (a : Option Addr) (t : Option Addr) : Md := ⟨1, 1, 3, 0, 0, a, 1, 1, [⟨0, t, 3, 3, threeW 5 10 20⟩]⟩
theorem zfit0 (n : Int) (h : (decide (-4294967296 ≤ n) && decide (n ≤ 4294967296)) = true) : FitI n := by
  simp at h
  exact fit_small h.1 h.2
theorem runs_right (a t : Option Addr) : RightM (runsM a t) := by
  refine ⟨Int.le_refl 1, by show (1 : Int) ≤ 4; omega, Int.le_refl 1, by show (1 : Int) ≤ 3; omega, ?_, by show 1 ≤ 8; omega, fun i hi => ?_⟩
  · exact ⟨⟨rfl, rfl, rfl⟩, fun h => absurd h (by show ¬ (1 : Int) ≤ 0; omega), fun _ => rfl, fun _ => rfl⟩
  · have : i = 0 := by simp [runsM] at hi; omega
    subst this
    exact ⟨Int.le_refl 0, by show (0 : Int) < 1; omega, three_tree (by decide) (by decide) (by decide) (by decide) (by decide) (by decide) (Int.le_refl 1) (by show (1 : Int) ≤ 4; omega)⟩
theorem wrap64_in {n : Int} (h1 : -9223372036854775808 ≤ n) (h2 : n ≤ 9223372036854775807) : wrap64 n = n := by
  unfold wrap64
  omega
theorem runs_sum (a t : Option Addr) (p : Int → Int) : (runsM a t).sum p 0 = 3 + valW (threeW 5 10 20) p := by
  simp [Md.sum, Md.b, runsM, sumTo, tA]

end Go.Proofs.YtkkbeobocbgmeaaGreat
