/- The nodes of a tree of one threshold (the statements' own 'three'). -/
import Derived.Test.YtndnijdpafcmoaaRowsF
import Derived.Test.YtndnijdpafcmoaaMathT
import Derived.Test.YtndnijdpafcmoaaRefNode
namespace Go.Proofs.Ytndnijdpafcmoaa
open Go.RowKit M

def threeN (at_ a b : Int) : List Nd := [⟨false, 0, 0, at_, 1, 2⟩, ndLeaf a, ndLeaf b]
def threeW (at_ a b : Int) : List Int := (threeN at_ a b).map Nd.pack
theorem three_tree {at_ a b d : Int} (h1 : 0 ≤ at_) (h2 : at_ ≤ 9) (h3 : -3000 ≤ a) (h4 : a ≤ 3000) (h5 : -3000 ≤ b) (h6 : b ≤ 3000) (hd : 1 ≤ d) (hd4 : d ≤ 4) : TreeP (threeW at_ a b) d :=
  ((bush_one (v := 0) (by omega) (by omega) d).part (k := 0) (A := 0) (f := 0) (a := at_) (u := a) (v := b) (by decide) (by decide) rfl (by omega) (by omega) hd4 h1 h2 h3 h4 h5 h6 (by decide)).tree (by simp) (by simp)
/-- words of the call's own -/
def GotW (w : World) (ws : List Int) (e : Ending) (w' : World) : Prop :=
  ∃ g, e = .returned (.slice (some ⟨g, 0, none⟩) 3 3) ∧ IsW w' (some ⟨g, 0, none⟩) 3 3 ws ∧ w.heap.size ≤ g ∧ g < w'.heap.size ∧ Jk w w'


end Go.Proofs.Ytndnijdpafcmoaa
