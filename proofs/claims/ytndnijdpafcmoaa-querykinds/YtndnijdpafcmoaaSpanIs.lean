/- The contracts of package span once more, the answer a letter: for regions that draw their order. -/
import Derived.Test.YtndnijdpafcmoaaSpan
namespace Go.Proofs.Ytndnijdpafcmoaa
open Go.RowKit M

theorem empty_is {x y : Int} {b : Bool} (h : emB x y = b) (w : World) : Calls Try.prog 31 #[spanV x y] w fun e w' => e = .returned (.bool b) ∧ Jk w w' := h ▸ empty_any x y w

theorem has_is {x y n : Int} {b : Bool} (h : hasB x y n = b) (w : World) : Calls Try.prog 22 #[spanV x y, .int .i64 n] w fun e w' => e = .returned (.bool b) ∧ Jk w w' := h ▸ has_any x y n w



end Go.Proofs.Ytndnijdpafcmoaa
