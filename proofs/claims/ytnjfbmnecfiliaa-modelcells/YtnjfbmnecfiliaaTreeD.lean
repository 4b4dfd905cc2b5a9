/- What Leaves and Depth of package tree answer. -/
import Derived.Test.YtnjfbmnecfiliaaTreeB
namespace Go.Proofs.Ytnjfbmnecfiliaa
open Go.RowKit M

/-- a row of ints of the call's own -/
def GotI (w : World) (zs : List Int) (e : Ending) (w' : World) : Prop := ∃ v m, e = .returned v ∧ OwnI w.heap.size w' v m zs ∧ Jk w w'
theorem row_mono {w : World} {B B' : Nat} {e : TypeId} {size : Nat} {v : Value} {n : Nat} {xs : List Value} (h : w.ownsRow B e size v n xs) (hb : B' ≤ B) : w.ownsRow B' e size v n xs := by
  refine ⟨h.1, ?_⟩
  rcases h.2 with h | ⟨g, cap, cur, h1, h2, h3⟩
  · exact .inl h
  · exact .inr ⟨g, cap, cur, h1, by omega, h3⟩

end Go.Proofs.Ytnjfbmnecfiliaa
