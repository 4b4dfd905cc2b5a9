/- One tree that was laid in a block of its own. -/
import Derived.Test.YtnjfbmnecfiliaaRowsG
namespace Go.Proofs.Ytnjfbmnecfiliaa
open Go.RowKit M

theorem new_tree (w : World) (x : Int) (s : Option Addr) (n c : Nat) (ws : List Int) {b : Nat} (hb : b = w.heap.size) : AtT (w.alloc (.cells #[.int .i64 x, .slice s n c] 26)) b 0 [⟨x, s, n, c, ws⟩] := fun i hi => by
  simp at hi
  subst hi
  exact ⟨new_cells w #[.int .i64 x, .slice s n c] _ _ hb 0 _ rfl, new_cells w #[.int .i64 x, .slice s n c] _ _ hb 1 _ rfl⟩

end Go.Proofs.Ytnjfbmnecfiliaa
